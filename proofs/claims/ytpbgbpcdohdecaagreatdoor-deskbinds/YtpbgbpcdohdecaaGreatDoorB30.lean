/- Lemmas that the proof leans on. -/
import Derived.Test.YtpbgbpcdohdecaaGreatDoorB29
namespace Go.Proofs.YtpbgbpcdohdecaaGreatDoor
open Go Go.RowKit
set_option maxRecDepth 100000
set_option maxHeartbeats 1000000
section
section
variable {w0 w : World} {a : Ca} {i : Int} {ev : List Evt} {X : List Nat}
theorem tla_length (face q : Int) (ns : List Int) (h : ns.length ≤ (evS face q).length) : (tla face q ns).length = ns.length := by
 rw [tla, List.length_zipWith, Nat.min_eq_right h]
theorem tla_step {face q : Int} {ns : List Int} (_h : ns.length ≤ (evS face q).length) {j : Nat} {n : Int} (hj : ns[j]? = some n) {z : UInt8} (hz : (evS face q)[j]? = some z) : (tla face q ns).take (j + 1) = (tla face q ns).take j ++ [anm z.toNat n] := by
 rw [List.take_add_one, tla, List.getElem?_zipWith, hj, hz]
 rfl
theorem anm_ok {z : UInt8} {n : Int} (h : -9223372036854775808 ≤ n ∧ n ≤ 9223372036854775807) : (anm z.toNat n).Ok := ⟨z.toNat_lt, h.1, h.2, by simp [anm, ByteArray.size]⟩
theorem tla_ok {face q : Int} {ns : List Int} (h : ∀ n ∈ ns, -9223372036854775808 ≤ n ∧ n ≤ 9223372036854775807) : ∀ x ∈ tla face q ns, x.Ok := fun x hx => by
 obtain ⟨j, hj, rfl⟩ := List.getElem_of_mem hx
 simp only [tla, List.getElem_zipWith]
 exact anm_ok (h _ (List.getElem_mem _))
theorem tell_any (h : Tv w0 a i ev w X) (face o q : Int) (x : Option Addr) (n c : Nat) (ns : List Int) (hr : RdI .i64 w x n c ns) (hl : n ≤ (evS face q).length) (hn : n ≤ 1000) (hev : ev.length ≤ 4000000) (em : Addr) (hm : w.cell? ⟨7, 0, none⟩ = some (.iface 392 (.pointer (some em)))) :
  Calls Tryz.prog 57 #[ptz a.q, .int .i64 face, .int .i64 o, .int .i64 q, .slice x n c] w fun e w' => (∃ v, e = .returned v) ∧ Nx (Tv w0 a i (ev ++ [⟨face, o, q, tla face q ns⟩])) X w w' := by
 obtain ⟨iA, hiA, hzA0, hzA1, hzA2⟩ := info_any infoArg
 have hlen := hr.len
 have hwf : ∀ z ∈ ns, -9223372036854775808 ≤ z ∧ z ≤ 9223372036854775807 := fun z hz => by
  have := hr.wf z hz
  simpa [Lit.wf, IntKind.min, IntKind.max, IntKind.signed, IntKind.bits] using this
 have HC := hid (Event_any face q w em hm)
 have HTL := hid (tla_length face q ns (by omega))
 have HST := hid (fun (j : Nat) (m : Int) (hj : ns[j]? = some m) (z : UInt8) (hz : (evS face q)[j]? = some z) => tla_step (ns := ns) (face := face) (q := q) (by omega) hj hz)
 have HOK := hid (@tla_ok face q ns hwf)
 have HS := hid (fun (w1 w2 : World) (hb : Below w.heap.size w w1) (xa : Option Addr) (ca : Nat) (hra : RdA w1 xa n ca (tla face q ns)) (hx : ∀ b ∈ abl (xa, n, ca), w.heap.size ≤ b) => send_any h hb face o q xa n ca (tla face q ns) hra hx hev)
 have HR := hid hr
 have hc1 := hr.le
 have hc2 := hr.max
 simp only [maxLen] at hc2
 obtain ⟨sg, hsg⟩ : ∃ sg : ByteArray, sg = ⟨(evS face q).toArray⟩ := ⟨_, rfl⟩
 have hsz : sg.size = (evS face q).length := by rw [hsg]; simp [ByteArray.size]
 have HG : Hid (∀ (j : Nat) (hj : j < sg.size), (evS face q)[j]? = some sg[j]) := fun j hj => by
  have := str_at sg j hj
  rw [← this, hsg]
 rw [← hsz] at hl
 rw [← hsg] at HC
 clear hr hwf hsz h hm hsg
 go_enter Tryz.func57, Tryz.ntmps57
 go_wp2_with fail
 refine HC.out.mono ?_
 rintro e w1 ⟨rfl, hb1⟩
 have HB1 := hid hb1
 have hs1 := hb1.size
 clear hb1
 go_wp2
 go_loopw [12, 23] (fun v k wr => ∃ j : Nat, k = .int .i64 j ∧ j ≤ n ∧ wr.ownsRow w1.heap.size 34 3 v j (acs ((tla face q ns).take j)) ∧ RowKit.Below w1.heap.size w1 wr)
  (fun _ k _ => n - (numOf k).toNat)
 case atStart => exact ⟨0, rfl, by omega, by simpa [acs] using World.ownsRow_nil _ _ _ _, Below.refl _ _⟩
 case round =>
  obtain ⟨j, rfl, hj, hrow, hb⟩ := hrel
  have HB := hid (Below.on HB1.out hb)
  by_cases hgo : j < n
  ·have e1 : decide ((j : Int) < n) = true := decide_eq_true (by omega)
   obtain ⟨bs, off, rfl, hbs, hcz⟩ := HR.out.plain (by omega)
   obtain ⟨z, hz⟩ : ∃ z, z = ns.getD j 0 := ⟨_, rfl⟩
   have hzm : ns[j]? = some z := by rw [hz, List.getD, List.getElem?_eq_getElem (by omega)]; rfl
   have cz := hcz j (by omega)
   rw [← HB.out.cell hbs, ← hz] at cz
   have lz : bs < wr.heap.size := Nat.lt_of_lt_of_le hbs HB.out.size
   have hjs : j < sg.size := by omega
   have HT : Hid ((tla face q ns).take (j + 1) = (tla face q ns).take j ++ [anm sg[j].toNat z]) := HST.out j z hzm sg[j] (HG.out j hjs)
   have HF : Hid (∀ v5 w5, w5.ownsRow w1.heap.size 34 3 v5 (j + 1) (acs ((tla face q ns).take j) ++ ac_WireB (anm sg[j].toNat z)) → (wr.alloc (.cells #[.int .u8 (sg[j].toNat : Nat), .int .i64 z, .string ⟨#[]⟩] 34)).grownBy w5 u12.ownBlock →
     w5.ownsRow w1.heap.size 34 3 v5 (j + 1) (acs ((tla face q ns).take (j + 1))) ∧ RowKit.Below w1.heap.size w1 w5) := fun v5 w5 o5 g5 => by
    refine ⟨?_, (hb.alloc hb.size _).grown g5 (by rw [World.size_alloc]; have := hb.size; omega) (fun k hk => (hrow.lt k hk).1)⟩
    rw [HT.out, acs_append, show acs [anm sg[j].toNat z] = ac_WireB (anm sg[j].toNat z) from List.append_nil _]
    exact o5
   have HOW := hid (hrow.alloc (.cells #[.int .u8 (sg[j].toNat : Nat), .int .i64 z, .string ⟨#[]⟩] 34))
   have HSR : Hid (Src Tryz.prog 3 40 (.slice (some ⟨wr.heap.size, 0, none⟩) 1 1) 1 (ac_WireB (anm sg[j].toNat z)) (wr.alloc (.cells #[.int .u8 (sg[j].toNat : Nat), .int .i64 z, .string ⟨#[]⟩] 34))) :=
    Src.ofSlice _ Tryz.underlying40 ⟨wr.heap.size, 0, none⟩ 1 1 (ac_WireB (anm sg[j].toNat z)) rfl (cells3_WireJ wr (anm sg[j].toNat z) 34) (ac_one _)
   have hws : w1.heap.size ≤ (wr.alloc (.cells #[.int .u8 (sg[j].toNat : Nat), .int .i64 z, .string ⟨#[]⟩] 34)).heap.size := by rw [World.size_alloc]; have := hb.size; omega
   clear hcz hzm hz hrow hb HT
   go_wp2_with (at_builtin; refine wpList_append_own_src _ rfl (.tmp 28) (.tmp 34) 40 40 rfl w1.heap.size 34 iA (.agg #[.int .u8 0, .int .i64 0, .string ⟨#[]⟩]) 3 32 Tryz.underlying40 hiA hzA0 hzA1 hzA2 rfl _ _ _ rfl HOW.out _ _ _ rfl HSR.out (by simp only [maxLen]; omega) (fits32j (by omega)) hws ?_; intro v5 w5 o5 g5; obtain ⟨o6, b6⟩ := HF.out v5 w5 o5 g5; clear o5 g5 HF HOW HSR)
   go_wp2
   go_roundw
   case rel => exact ⟨j + 1, by go_num, by omega, o6, b6⟩
   case measure => simp [numOf]; omega
  ·obtain rfl : j = n := by omega
   have e1 : decide ((j : Int) < j) = false := decide_eq_false (by omega)
   have hT : (tla face q ns).take j = tla face q ns := by rw [List.take_of_length_le (by rw [HTL.out]; omega)]
   rw [hT] at hrow
   obtain ⟨xa, ca, rfl, hra, hblk⟩ := rda_of_owns hrow HOK.out
   have HSS := hid (HS.out wr wr HB.out xa ca hra (fun b hb => by
    obtain ⟨_, y, hy, rfl⟩ := mem_abl.1 hb
    have := (hblk y hy).1
    omega))
   clear hrow hb hT hra hblk
   go_wp2_with fail
   refine HSS.out.mono ?_
   rintro e w2 ⟨⟨v, rfl⟩, hN⟩
   have HN := hid hN
   clear hN
   go_wp2
   go_end0
   exact ⟨⟨_, rfl⟩, HN.out⟩
end
end
section
section
variable {es : List Addr} {w0 w w' : World} {a : Da} {mm n : Nat} {d d' : Dsk} {X Z : List Nat} {i : Int} {k : Kl}
theorem set_same_DpF {α : Type} {l : List α} {j : Nat} {x : α} (h : l[j]? = some x) : l.set j x = l := by
 apply List.ext_getElem?
 intro m
 by_cases e : j = m
 ·subst e
  rw [List.getElem?_set_self (List.getElem?_eq_some_iff.1 h).1, h]
 ·rw [List.getElem?_set_ne e]
theorem Dke.at_ {A : Th} (h : Dke es w0 a mm d w Z) (j : Nat) (hA : (dskT es w0 a mm d)[j]? = some A) : ∃ X, A w X ∧ ∀ b ∈ X, b ∈ Z := by
 obtain ⟨_, X, Y, hC, _, _, rfl⟩ := h
 obtain ⟨X1, h1, h2⟩ := (ln_nth (A' := A) j (dskT_ft es w0 a mm d) hA).get hC
 exact ⟨X1, h1, fun b hb => List.mem_append_left _ (h2 b hb)⟩
theorem Dke.td (h : Dke es w0 a mm d w Z) : ∃ X, Td w0 a d.ser d.tk d.tm d.nb d.npl w X ∧ ∀ b ∈ X, b ∈ Z := h.at_ 0 rfl
theorem Dke.clt (h : Dke es w0 a mm d w Z) (hk : d.kli i = some k) : ∃ c, a.cs[(i - 1).toNat]? = some (some c) ∧ ∃ X, Tcl w0 c i k w X ∧ ∀ b ∈ X, b ∈ Z := by
 obtain ⟨c, hc⟩ := h.ca hk
 have e : d.kput i k = d := by
  rw [Dsk.kput, set_same_DpF (Dsk.kli_at hk).2]
 obtain ⟨X, h1, h2⟩ := (ldt_cl (k' := k) hk hc (fun h => by rw [e]; exact h)).get h
 exact ⟨c, hc, X, h1, h2⟩
theorem Dke.up (h : Dke es w0 a mm d w Z) (hn : mm ≤ n) (hx : n ≤ 900) : Dke es w0 a n d w Z := by
 obtain ⟨⟨h1, h2⟩, X, Y, hC, h3, h4, rfl⟩ := h
 refine ⟨⟨h1.mono hn hx, h2⟩, X, Y, ?_, h3, h4, rfl⟩
 exact core_up hn hC
theorem Td.lt {ser tk tm nb npl : Int} (h : Td w0 a ser tk tm nb npl w X) : a.p < w.heap.size := by
 obtain ⟨_, _, v, h2, _⟩ := h
 exact (Array.getElem?_eq_some_iff.1 h2).1
def clq (a : Da) (d : Dsk) (i : Int) : Value := if (d.kli i).isSome then cpt (a.cs[(i - 1).toNat]?).join else .pointer none
theorem clq_some {c : Ca} (hk : d.kli i = some k) (hc : a.cs[(i - 1).toNat]? = some (some c)) : clq a d i = ptz c.q := by rw [clq, hk, hc]; rfl
theorem clq_none (hk : d.kli i = none) : clq a d i = .pointer none := by rw [clq, hk]; rfl
theorem dcli_any (h : Dke es w0 a mm d w Z) (i : Int) (hi : -9223372036854775808 ≤ i ∧ i ≤ 9223372036854775807) : Calls Tryz.prog 27 #[ptz a.p, .int .i64 i] w fun e w' => e = .returned (clq a d i) ∧ Below w.heap.size w w' := by
 obtain ⟨hok, halk, hgone⟩ := h.1
 obtain ⟨_, ⟨_, _, v, hv, hrow, _, _⟩, _⟩ := h.td
 have c0 : w.cell? ⟨a.p, 0, none⟩ = some v := by rw [Lib.cell_of_heap hv]; rfl
 have lp : a.p < w.heap.size := (Array.getElem?_eq_some_iff.1 hv).1
 have hlen := halk.1
 have hl6 := hok.cl
 obtain ⟨x, c, rfl, hnc, hcm, hcell⟩ := own_cells hrow
 have hbA : Below w.heap.size w w := Below.refl _ _
 by_cases h1 : i < 1
 ·have e1 : decide (i < 1) = true := decide_eq_true h1
  have HQ : Hid (clq a d i = .pointer none) := clq_none (by rw [Dsk.kli, if_neg (show ¬ 1 ≤ i by omega)])
  clear h hok halk hgone hv hrow hcell hlen
  go_enter Tryz.func27, Tryz.ntmps27
  go_wp2
  go_ret
  exact ⟨HQ.out ▸ rfl, hbA⟩
 ·have e1 : decide (i < 1) = false := decide_eq_false h1
  by_cases h2 : (a.cs.length : Int) < i
  ·have e2 : decide ((a.cs.length : Int) < i) = true := decide_eq_true h2
   have HQ : Hid (clq a d i = .pointer none) := clq_none (by
    rw [Dsk.kli, if_pos (show 1 ≤ i by omega), List.getElem?_eq_none (by omega)]
    rfl)
   clear h hok halk hgone hv hrow hcell
   go_enter Tryz.func27, Tryz.ntmps27
   go_wp2
   go_ret
   exact ⟨HQ.out ▸ rfl, hbA⟩
  ·have e2 : decide ((a.cs.length : Int) < i) = false := decide_eq_false h2
   obtain ⟨j, hj⟩ : ∃ j : Nat, (i - 1) = (j : Int) := ⟨(i - 1).toNat, by omega⟩
   have hjl : j < a.cs.length := by omega
   have hjn : (i - 1).toNat = j := by omega
   obtain ⟨o, ho⟩ : ∃ o, a.cs[j]? = some o := ⟨_, List.getElem?_eq_getElem hjl⟩
   obtain ⟨g, rfl, _, hgl, _, hgc⟩ := hcell (by omega)
   have cj := hgc j (cpt o) (by rw [List.getElem?_map, ho]; rfl)
   have HQ : Hid (clq a d i = cpt o) := by
    show clq a d i = cpt o
    rw [clq, hjn, ho]
    obtain ⟨y, hy⟩ : ∃ y, d.cl[j]? = some y := ⟨_, List.getElem?_eq_getElem (by omega)⟩
    cases y with
    | none =>
     rw [Dsk.kli, if_pos (show 1 ≤ i by omega), hjn, hy]
     have := hgone j hy
     rw [ho] at this
     cases this
     rfl
    | some k =>
     rw [Dsk.kli, if_pos (show 1 ≤ i by omega), hjn, hy]
     rfl
   have hi1 : i - 1 = (j : Int) := hj
   clear h hok halk hgone hv hrow hcell hgc ho
   generalize cpt o = vo at *
   go_enter Tryz.func27, Tryz.ntmps27
   go_wp2
   go_ret
   exact ⟨HQ.out ▸ rfl, hbA⟩
end
end
section
def nameAt (s : ByteArray) (j : Nat) : Prop := (⟨(nmT.getD j []).toArray⟩ : ByteArray) = s
instance (s : ByteArray) (j : Nat) : Decidable (nameAt s j) := inferInstanceAs (Decidable (_ = _))
def faceOf (s : ByteArray) : Nat := ((List.range 18).find? fun j => decide (nameAt s j)).getD 0
theorem faceOf_at (s : ByteArray) (j : Nat) (hj : j < 18) (h : nameAt s j) (hb : ∀ m, m < j → ¬ nameAt s m) : faceOf s = j := by
 rw [faceOf]
 have : (List.range 18).find? (fun j => decide (nameAt s j)) = some j := by
  rw [List.find?_range_eq_some]
  exact ⟨by simpa using h, by simpa using hj, fun m hm => by simpa using hb m hm⟩
 rw [this]
 rfl
theorem faceOf_none (s : ByteArray) (hb : ∀ m, m < 18 → ¬ nameAt s m) : faceOf s = 0 := by
 rw [faceOf]
 have : (List.range 18).find? (fun j => decide (nameAt s j)) = none := by
  rw [List.find?_eq_none]
  intro x hx
  simpa using hb x (by simpa using hx)
 rw [this]
 rfl
theorem neq_toList {a b : ByteArray} (h : ¬ a = b) : (a.toList == b.toList) = false := by
 rw [ByteArray.toList_eq, ByteArray.toList_eq]
 refine beq_eq_false_iff_ne.2 fun e => h ?_
 obtain ⟨⟨x⟩⟩ := a
 obtain ⟨⟨y⟩⟩ := b
 obtain rfl : x = y := e
 rfl
theorem ret_i_SigD {a b : Int} (h : a = b) : Ending.returned (.int .i64 a) = .returned (.int .i64 b) := by rw [h]
theorem Face_any (s : ByteArray) (w : World) :
  Calls Tryz.prog 77 #[.string s] w fun e w' => e = .returned (.int .i64 (faceOf s : Nat)) ∧ Below w.heap.size w w' := by
 have HC : Hid (∀ u : World, Calls Tryz.prog 118 #[] u fun e w' => e = .returned (.agg (strs nmT).toArray) ∧ Below u.heap.size u w') := names_any
 have HI : Hid (∀ k : Nat, k < 18 → ∀ u : World, Sem.run Tryz.prog (Instr.index 246 (.agg (strs nmT).toArray) (.int .i64 (k : Int))) u = .ok (.string ⟨(nmT.getD k []).toArray⟩) u) := by
  intro k hk u
  refine idx_run 246 9 18 Tryz.underlying246 rfl (strs nmT).toArray k _ hk ?_ u
  rw [List.getElem?_toArray, strs, List.getElem?_map, List.getD, List.getElem?_eq_getElem (show k < nmT.length from hk)]
  rfl
 generalize (strs nmT).toArray = cs at *
 go_enter Tryz.func77, Tryz.ntmps77
 go_wp2_with (go_at_call 118; refine (HC.out _).mono ?_; rintro e w' ⟨rfl, hb⟩; have HB : Hid (Below w.heap.size w w') := hb; clear hb)
 go_loop [6] (fun i => ∃ j : Nat, (j ≤ 18 ∧ Hid (∀ m, m < j → ¬ nameAt s m)) ∧ i = .int .i64 j) (fun i => 18 - (RowKit.intOf i).toNat)
 case atStart => exact ⟨0, ⟨by omega, fun m hm => absurd hm (Nat.not_lt_zero _)⟩, rfl⟩
 case round =>
  obtain ⟨j, ⟨hj, HN⟩, rfl⟩ := hrel
  by_cases h18 : j = 18
  ·subst h18
   go_wp2
   go_ret
   exact ⟨ret_i_SigD (by rw [faceOf_none s HN.out]; rfl), HB.out⟩
  ·have hlt : (j : Int) < 18 := by omega
   have hi := HI.out j (by omega)
   by_cases he : nameAt s j
   ·have he' : (⟨(nmT.getD j []).toArray⟩ : ByteArray) = s := he
    rw [he'] at hi
    clear he'
    have hb : (s.toList == s.toList) = true := beq_self_eq_true _
    go_wp2
    go_ret
    exact ⟨ret_i_SigD (by rw [faceOf_at s j (by omega) he HN.out]), HB.out⟩
   ·have hb : ((⟨(nmT.getD j []).toArray⟩ : ByteArray).toList == s.toList) = false := (neq_toList he)
    have HE : Hid (¬ nameAt s j) := he
    clear he
    generalize (⟨(nmT.getD j []).toArray⟩ : ByteArray) = y at *
    go_wp2
    go_round
    case rel =>
     refine ⟨j + 1, ⟨by omega, fun m hm => ?_⟩, by go_num⟩
     rcases Nat.lt_succ_iff_lt_or_eq.1 hm with h | rfl
     ·exact HN.out m h
     ·exact HE.out
    case measure => simp [RowKit.intOf]; omega
end
section
section
variable {w w' : World}
def av0 : AV := ⟨0, 0, ⟨#[]⟩⟩
def mdO : List AV → Int
 | [] => 0
 | x :: l => if x.k = 110 then x.n else mdO l
theorem mdO_drop {l : List AV} {j : Nat} {x : AV} (h : l[j]? = some x) : mdO (l.drop j) = if x.k = 110 then x.n else mdO (l.drop (j + 1)) := by
 have hj := (List.getElem?_eq_some_iff.1 h).1
 rw [List.drop_eq_getElem_cons hj, mdO, (List.getElem?_eq_some_iff.1 h).2]
theorem bel_drq (w : World) (q : Nat) : Below w.heap.size w (w.drewN q) := ⟨rfl, rfl, rfl, Nat.le_refl _, fun _ _ => rfl⟩
theorem bel_mkK (w : World) (o : Obj) : Below w.heap.size w (w.alloc o) := (Below.refl _ _).alloc (Nat.le_refl _) _
theorem made_any (o q : Int) (x : Option Addr) (n c : Nat) (l : List AV) (hr : RdA w x n c l) : Calls Tryz.prog 47 #[.agg #[.int .i64 o, .int .i64 q, .slice x n c]] w fun e w' => e = .returned (.int .i64 (mdO l)) ∧ Below w.heap.size w w' := by
 have hlen := hr.len
 have hc1 := hr.le
 have hc2 := hr.max
 simp only [maxLen] at hc2
 have HB := hid (bel_mkK w (.cells #[.int .i64 o, .int .i64 q, .slice x n c] 42))
 have HR := hid hr
 have hv := heap_alloc_new w (.cells #[.int .i64 o, .int .i64 q, .slice x n c] 42)
 clear hr
 go_enter Tryz.func47, Tryz.ntmps47
 go_wp2
 go_loopw [8] (fun k wr => ∃ j : Nat, k = .int .i64 j ∧ j ≤ n ∧ mdO l = mdO (l.drop j) ∧ Below w.heap.size w wr) (fun k _ => n - (numOf k).toNat)
 case atStart => exact ⟨0, rfl, by omega, rfl, HB.out⟩
 case round =>
  obtain ⟨j, rfl, hj, hm, hb⟩ := hrel
  have HM := hid hm
  have HW := hid hb
  by_cases hgo : j < n
  ·have e1 : decide ((j : Int) < n) = true := decide_eq_true (by omega)
   obtain ⟨bs, off, rfl, hbs, hcz⟩ := HR.out.plain (by omega)
   obtain ⟨y, hy⟩ : ∃ y, l[j]? = some y := ⟨_, List.getElem?_eq_getElem (by omega)⟩
   obtain ⟨c1, c2, c3⟩ := hcz j y hy
   rw [← hb.cell hbs] at c1 c2 c3
   have lz : bs < wr.heap.size := Nat.lt_of_lt_of_le hbs hb.size
   have HD := hid (mdO_drop hy)
   obtain ⟨yk, yn, ys⟩ := y
   simp only at c1 c2 c3
   clear hm hb hcz hy
   by_cases hk : yk = 110
   ·have HV : Hid (mdO l = yn) := by rw [Hid, HM.out, HD.out, if_pos hk]
    subst hk
    clear HD HM
    go_wp2
    go_ret
    exact ⟨by rw [HV.out]; rfl, HW.out.alloc HW.out.size _⟩
   ·have e2 : decide ((yk : Int) = 110) = false := decide_eq_false (by omega)
    have HV : Hid (mdO l = mdO (l.drop (j + 1))) := by rw [Hid, HM.out, HD.out, if_neg hk]
    clear HD HM
    go_wp2
    go_roundw
    case rel => exact ⟨j + 1, by go_num, by omega, HV.out, HW.out.alloc HW.out.size _⟩
    case measure => simp [numOf]; omega
  ·obtain rfl : j = n := by omega
   have e1 : decide ((j : Int) < j) = false := decide_eq_false (by omega)
   have HV : Hid (mdO l = 0) := by rw [Hid, HM.out, List.drop_of_length_le (by omega)]; rfl
   clear hm hb HM
   go_wp2
   go_ret
   exact ⟨by rw [HV.out]; rfl, HW.out⟩
def glT : List Int := [4, 4, 5, 1, 10, 1, 12, 5, 15, 1]
def glF (n : Nat) : Int := glT.getD (2 * n) 0
def glV (n : Nat) : Int := glT.getD (2 * n + 1) 0
def Glb (w : World) : Prop := ∀ j, j < 10 → w.cell? ⟨17, j, none⟩ = some (.int .i64 (glT.getD j 0))
theorem Glb.on (h : Glb w) (hb : Below w.heap.size w w') : Glb w' := fun j hj => by
 rw [hb.cell (World.block_lt_of_cell? w _ (h j hj))]
 exact h j hj
theorem Glb.at (h : Glb w) {n : Nat} (hn : n < 5) : w.cell? ⟨17, n * 2, none⟩ = some (.int .i64 (glF n)) ∧ w.cell? ⟨17, n * 2 + 1, none⟩ = some (.int .i64 (glV n)) := by
 refine ⟨?_, ?_⟩
 ·rw [h _ (by omega), glF, Nat.mul_comm]
 ·rw [h _ (by omega), glV, Nat.mul_comm]
def bndB (l : List AV) : Bool := decide (1 ≤ (l.getD 0 av0).n) && (decide ((l.getD 0 av0).n ≤ 5) && (((l.getD 1 av0).s.toList == (⟨(nmS (glF ((l.getD 0 av0).n - 1).toNat)).toArray⟩ : ByteArray).toList) && (decide (1 ≤ (l.getD 2 av0).n) && decide ((l.getD 2 av0).n ≤ glV ((l.getD 0 av0).n - 1).toNat))))
theorem maybind_any (x : Option Addr) (n c : Nat) (l : List AV) (hr : RdA w x n c l) (hn : 3 ≤ n) (hG : Glb w) : Calls Tryz.prog 76 #[.slice x n c] w fun e w' => e = .returned (.bool (bndB l)) ∧ Below w.heap.size w w' := by
 have hlen := hr.len
 have hc1 := hr.le
 have hc2 := hr.max
 simp only [maxLen] at hc2
 obtain ⟨bs, off, rfl, hbs, hcz⟩ := hr.plain (by omega)
 obtain ⟨y0, hy0⟩ : ∃ y, l[0]? = some y := ⟨_, List.getElem?_eq_getElem (by omega)⟩
 obtain ⟨y1, hy1⟩ : ∃ y, l[1]? = some y := ⟨_, List.getElem?_eq_getElem (by omega)⟩
 obtain ⟨y2, hy2⟩ : ∃ y, l[2]? = some y := ⟨_, List.getElem?_eq_getElem (by omega)⟩
 have d0 := (hcz 0 y0 hy0).2.1
 have d1 := (hcz 1 y1 hy1).2.2
 have d2 := (hcz 2 y2 hy2).2.1
 have HQ : Hid (bndB l = (decide (1 ≤ y0.n) && (decide (y0.n ≤ 5) && ((y1.s.toList == (⟨(nmS (glF (y0.n - 1).toNat)).toArray⟩ : ByteArray).toList) && (decide (1 ≤ y2.n) && decide (y2.n ≤ glV (y0.n - 1).toNat)))))) := by
  rw [Hid, bndB, List.getD_eq_getElem?_getD, List.getD_eq_getElem?_getD, List.getD_eq_getElem?_getD, hy0, hy1, hy2]
  rfl
 have hw0 := hr.wf y0 (List.mem_of_getElem? hy0)
 have hw2 := hr.wf y2 (List.mem_of_getElem? hy2)
 have hl0 := hw0.lo
 have hh0 := hw0.hi
 obtain ⟨k0, z0, s0⟩ := y0
 obtain ⟨k1, z1, s1⟩ := y1
 obtain ⟨k2, z2, s2⟩ := y2
 simp only [Nat.zero_mul, Nat.add_zero, Nat.one_mul] at d0 d1 d2 HQ hl0 hh0
 have HG := hid hG
 have HB := hid (bel_drq w)
 clear hr hcz hy0 hy1 hy2 hw0 hw2 hG
 go_enter Tryz.func76, Tryz.ntmps76
 go_wp2
 go_quiet (fail)
 have hbq := HB.out nq
 generalize w.drewN nq = W at *
 have HW := hid hbq
 by_cases h1 : z0 < 1
 ·have e1 : decide (z0 < 1) = true := decide_eq_true h1
  go_wp2
  go_ret
  exact ⟨by rw [HQ.out, decide_eq_false (show ¬ 1 ≤ z0 by omega)]; rfl, HW.out⟩
 ·have e1 : decide (z0 < 1) = false := decide_eq_false h1
  by_cases h2 : 5 < z0
  ·have e2 : decide (5 < z0) = true := decide_eq_true h2
   go_wp2
   go_ret
   exact ⟨by rw [HQ.out, decide_eq_false (show ¬ z0 ≤ 5 by omega)]; simp, HW.out⟩
  ·have e2 : decide (5 < z0) = false := decide_eq_false h2
   obtain ⟨j, hj⟩ : ∃ j : Nat, z0 - 1 = (j : Int) := ⟨(z0 - 1).toNat, by omega⟩
   have hjn : (z0 - 1).toNat = j := by omega
   have hj5 : j < 5 := by omega
   obtain ⟨g0, g1⟩ := (HG.out.on hbq).at hj5
   have lg := World.block_lt_of_cell? _ _ g0
   have HN := hid (fun u => Name_any (glF j) u)
   have HQ2 : Hid (bndB l = ((s1.toList == (⟨(nmS (glF j)).toArray⟩ : ByteArray).toList) && (decide (1 ≤ z2) && decide (z2 ≤ glV j)))) := by
    rw [Hid, HQ.out, hjn, decide_eq_true (show 1 ≤ z0 by omega), decide_eq_true (show z0 ≤ 5 by omega)]
    rfl
   generalize glF j = gf at *
   generalize glV j = gv at *
   clear HQ hbq
   go_wp2_with fail
   refine (HN.out _).mono ?_
   rintro e w2 ⟨rfl, hb2⟩
   have HB2 := hid (Below.on (HW.out.alloc HW.out.size _) hb2)
   have hv2 := (kp_of_below hb2 []).var (heap_alloc_new W (.cells #[.int .i64 gf, .int .i64 gv] 244)) (by simp)
   have c1 : w2.cell? ⟨W.heap.size, 1, none⟩ = some (.int .i64 gv) := by rw [Lib.cell_of_heap hv2]; rfl
   have l2 : W.heap.size < w2.heap.size := (Array.getElem?_eq_some_iff.1 hv2).1
   clear hb2 hv2 g0 g1 HN
   have HQ3 : Hid (∀ b : Bool, (b = true ↔ s1.toList = nmS gf ∧ 1 ≤ z2 ∧ z2 ≤ gv) → Ending.returned (.bool b) = Ending.returned (.bool (bndB l))) := fun b hb => by
    have e : b = bndB l := by
     rw [HQ2.out, Bool.eq_iff_iff, hb]
     simp
    rw [e]
   clear HQ2 HG HB HW
   by_cases hB : s1.toList = nmS gf
   ·by_cases h3 : 1 ≤ z2
    ·go_wp2
     go_ret
     exact ⟨HQ3.out _ (by simp [hB, h3]), HB2.out⟩
    ·go_wp2
     go_ret
     exact ⟨HQ3.out _ ⟨fun h => (by cases h), fun h => absurd h.2.1 (by omega)⟩, HB2.out⟩
   ·go_wp2
    go_ret
    exact ⟨HQ3.out _ (by simp [hB]), HB2.out⟩
end
end
section
theorem laid18_errs : (Rows.deskBindsRow.laid.filter fun x => x.1 != "tableau/desk.globals") = ("errors.errorType", Rows.laid_errors_errorType) :: L16.map fun x => (x.1, x.2.1) := by rfl
theorem laid18_glob : ("tableau/desk.globals", Rows.laid_tableau_desk_globals) ∈ Rows.deskBindsRow.laid.filter fun x => x.2.handleName?.isNone :=
 List.mem_filter.2 ⟨by simp [Rows.deskBindsRow], by rfl⟩
theorem glob_name : Tryz.prog.globalNamed "tableau/desk.globals" = some 17 := by kernel_rfl
theorem glob_type : (Tryz.prog.globals[17]?).map (·.type) = some 245 := by kernel_rfl
theorem glob_one : Tryz.prog.cellsOf 244 = 2 := by kernel_rfl
theorem glob_fs : ∃ fs, Tryz.prog.underlying 244 = some (.struct fs) ∧ (∀ (i : Nat) (f : Field), fs[i]? = some f → Tryz.prog.underlying f.type = some (.int .i64) ∧ f.offset = i ∧ Tryz.prog.cellsOf f.type = 1) ∧ Tryz.prog.cellsOf 244 = fs.size := by
 refine ⟨_, Tryz.underlying244, fun i f h => ?_, by kernel_rfl⟩
 match i, h with
 | 0, h =>
  obtain rfl := Option.some.inj h
  exact ⟨by kernel_rfl, rfl, by kernel_rfl⟩
 | 1, h =>
  obtain rfl := Option.some.inj h
  exact ⟨by kernel_rfl, rfl, by kernel_rfl⟩
 | i + 2, h => simp at h
theorem all18 {W : World} (h : laidMetH Tryz.prog Rows.deskBindsRow.laid W) : (∃ es, All W es) ∧ Glb W := by
 constructor
 ·have h1 := h.filter (fun x => x.1 != "tableau/desk.globals")
  rw [laid18_errs] at h1
  exact all17 h1
 ·obtain ⟨g, t, cs, fuel, p, hg, ht, hv, hr⟩ := Lib.laidMet.reads (laidMetH_iff.1 h).1 laid18_glob
  obtain rfl := Option.some.inj (glob_name.symm.trans hg)
  obtain rfl := Option.some.inj (glob_type.symm.trans ht)
  obtain ⟨fs, hf1, hf2, hf3⟩ := glob_fs
  have el : ∀ i, i < 5 → (cs.toList.drop (i * 2)).take 2 = [.int .i64 (glF i), .int .i64 (glV i)] := fun i hi => by
   obtain ⟨f', d, q', hde, htr⟩ := Lib.array_elem Tryz.underlying245 hr i hi
   rw [glob_one] at htr
   have key : d = .agg ([glF i, glV i].map fun z => .lit (.int .i64 z)) := by
    match i, hi with
    | 0, _ | 1, _ | 2, _ | 3, _ | 4, _ => exact (Option.some.inj hde).symm
   rw [key] at htr
   have := Lib.ints_of_struct (k := .i64) hf1 hf2 hf3 htr
   simpa using this
  intro j hj
  have e := el (j / 2) (by omega)
  have hc := World.var?_cell hg hv j
  rw [hc, ← Array.getElem?_toList]
  have h2 : cs.toList[j]? = ((cs.toList.drop (j / 2 * 2)).take 2)[j % 2]? := by
   rw [List.getElem?_take, if_pos (by omega), List.getElem?_drop, show j / 2 * 2 + j % 2 = j by omega]
  rw [h2, e]
  rcases Nat.mod_two_eq_zero_or_one j with hm | hm
  ·rw [hm]
   simp only [List.getElem?_cons_zero, glF]
   rw [show 2 * (j / 2) = j by omega]
  ·rw [hm]
   simp only [List.getElem?_cons_succ, List.getElem?_cons_zero, glV]
   rw [show 2 * (j / 2) + 1 = j by omega]
end
section
theorem rqAt_mem {f o : Int} {x : List UInt8 × Int × Bool} (h : rqAt f o = some x) : ∃ k j : Nat, f = k ∧ o = j ∧ k < 18 ∧ (rqT.getD k [])[j]? = some x := by
 rw [rqAt] at h
 split at h
 ·rename_i hc
  refine ⟨f.toNat, o.toNat, by omega, by omega, ?_, h⟩
  rcases Nat.lt_or_ge f.toNat 18 with h' | h'
  ·exact h'
  ·rw [getD_far rqT _ (by rw [rqT_len]; exact h')] at h
   cases h
 ·cases h
def seven : List UInt8 := [105, 117, 102, 111, 110, 115, 97]
theorem rq_all7 : ∀ r ∈ rqT, ∀ x ∈ r, x.1.length ≤ 6 ∧ ∀ c ∈ x.1, c ∈ seven := by decide
theorem getD_mem {α : Type} {l : List (List α)} {k j : Nat} {x : α} (hk : k < l.length) (h : (l.getD k [])[j]? = some x) : ∃ r ∈ l, x ∈ r := by
 refine ⟨l.getD k [], ?_, List.mem_of_getElem? h⟩
 rw [List.getD, List.getElem?_eq_getElem hk]
 exact List.getElem_mem hk
theorem rqS_letters (f o : Int) : (rqS f o).length ≤ 6 ∧ ∀ c ∈ rqS f o, c ∈ seven := by
 rw [rqS]
 cases h : rqAt f o with
 | none => exact ⟨Nat.zero_le _, fun c hc => by cases hc⟩
 | some x =>
  obtain ⟨k, j, _, _, hk, hx⟩ := rqAt_mem h
  obtain ⟨r, hr, hxr⟩ := getD_mem hk hx
  exact rq_all7 r hr x hxr
end
section
def nm17 : List (List UInt8) := nmT.drop 1
theorem RefName_any (f : Int) (w : World) :
  Calls Tryz.prog 13 #[.int .i64 f] w fun e w' => e = .returned (.string ⟨(nmS f).toArray⟩) ∧ Below w.heap.size w w' := by
 go_enter Tryz.func13, Tryz.ntmps13
 go_upto_region 1 with fail
 refine wp_region_lit ?_
 refine wpList_litvar 85 _ 4 3 ⟨rfl, rfl, rfl⟩ ⟨rfl, rfl, rfl⟩ ⟨rfl, rfl, rfl⟩ (strs nm17).toArray (by kernel_rfl) (.agg #[.string ⟨#[]⟩, .string ⟨#[]⟩, .string ⟨#[]⟩, .string ⟨#[]⟩, .string ⟨#[]⟩, .string ⟨#[]⟩, .string ⟨#[]⟩, .string ⟨#[]⟩, .string ⟨#[]⟩, .string ⟨#[]⟩, .string ⟨#[]⟩, .string ⟨#[]⟩, .string ⟨#[]⟩, .string ⟨#[]⟩, .string ⟨#[]⟩, .string ⟨#[]⟩, .string ⟨#[]⟩]) 17 (by kernel_rfl) rfl rfl (by kernel_rfl) w.heap.size rfl
  ⟨#[.int .i64 f, undef, .string ⟨#[]⟩, .pointer (some ⟨w.heap.size, 0, none⟩), .agg (strs nm17).toArray, undef, undef, undef, undef, undef, undef, undef, undef, undef, undef], []⟩ (by kernel_rfl) (by kernel_rfl) (by kernel_rfl) ?_
 have HL : Hid (∀ k : Nat, k < 17 → (w.alloc (.cells (strs nm17).toArray 85)).cell? ⟨w.heap.size, k, none⟩ = some (.string ⟨(nmT.getD (k + 1) []).toArray⟩)) := by
  intro k hk
  refine cell_of (heap_alloc_last w _) ?_
  rw [strs, List.getElem?_map, nm17, List.getElem?_drop, List.getD, Nat.add_comm 1 k, List.getElem?_eq_getElem (show k + 1 < nmT.length from by show k + 1 < 18; omega)]
  rfl
 have HB : Hid (Below w.heap.size w (w.alloc (.cells (strs nm17).toArray 85))) := below1 _ _
 have HZ : Hid ((w.alloc (.cells (strs nm17).toArray 85)).heap[w.heap.size]? = some (.cells (strs nm17).toArray 85)) := heap_alloc_last w _
 generalize w.alloc (.cells (strs nm17).toArray 85) = W at *
 generalize (strs nm17).toArray = cs at *
 by_cases h1 : f < 1
 ·have h1' : decide (f < 1) = true := decide_eq_true h1
  have e : nmS f = [] := by
   rw [nmS]
   split
   ·rw [show f.toNat = 0 by omega]
    rfl
   ·rfl
  have HE : Hid (nmS f = []) := e
  clear e
  go_wp2
  go_ret
  exact ⟨by rw [HE.out]; rfl, HB.out⟩
 ·by_cases h2 : 17 < f
  ·have h1' : decide (f < 1) = false := decide_eq_false h1
   have h2' : decide (17 < f) = true := decide_eq_true h2
   have e : nmS f = [] := if_neg (by omega)
   have HE : Hid (nmS f = []) := e
   clear e
   go_wp2
   go_ret
   exact ⟨by rw [HE.out]; rfl, HB.out⟩
  ·obtain ⟨k, rfl⟩ : ∃ k : Nat, f = (k : Int) + 1 := ⟨(f - 1).toNat, by omega⟩
   have e : nmS ((k : Int) + 1) = nmT.getD (k + 1) [] := by
    rw [nmS, if_pos (by omega)]
    congr 1
   have hk : (k : Int) < 17 := by omega
   have hc := HL.out k (by omega)
   have h1' : decide ((k : Int) + 1 < 1) = false := decide_eq_false h1
   have h2' : decide (17 < (k : Int) + 1) = false := decide_eq_false h2
   obtain ⟨y, hy⟩ : ∃ y : ByteArray, (⟨(nmT.getD (k + 1) []).toArray⟩ : ByteArray) = y := ⟨_, rfl⟩
   rw [hy] at hc
   have HE : Hid (y = ⟨(nmS ((k : Int) + 1)).toArray⟩) := by rw [e]; exact hy.symm
   clear e hy HL HZ
   go_wp2
   go_ret
   exact ⟨by rw [← HE.out]; rfl, HB.out⟩
end
end Go.Proofs.YtpbgbpcdohdecaaGreatDoor
