/- Lemmas that the proof leans on. -/
import Derived.Test.YtpbgbpcdohdecaaGreatDoorB40
namespace Go.Proofs.YtpbgbpcdohdecaaGreatDoor
open Go Go.RowKit
set_option maxRecDepth 100000
set_option maxHeartbeats 1000000
section
theorem infoCpt : (Tryz.prog.info? 73).map (fun i => (i.zero, i.size, i.bytes)) = some (some (.pointer none), 1, 8) := by kernel_rfl
theorem step_append_at {P : Program} {ops : Array Oper} {o : Oper} {a : Act} {w : World} {K : Act → World → Prop} {Q : Exit → Act → World → Prop} {E : Prop}
  (hg : o.guard = none) (s x : Operand) (t tx : TypeId) (hop : o.op = .call { callee := .builtin .append, args := #[s, x], argTypes := #[t, tx] })
  (base : Nat) (e : TypeId) (i : TypeInfo) (z : Value) (size bytes : Nat) (ht : P.underlying t = some (.slice e)) (hi : P.info? e = some i) (hz : i.zero = some z)
  (hsize : i.size = size) (hby : i.bytes = bytes) (hzs : z.cells.size = size)
  (v : Value) (n : Nat) (xs : List Value) (hs : a.eval s = v) (hown : w.ownsRow base e size v n xs)
  (xv : Value) (m : Nat) (news : List Value) (hx : a.eval x = xv) (hsrc : Src P size tx xv m news w)
  (h63 : n + m ≤ maxLen) (hbytes : ∀ old, old < n + m → Builtin.nextslicecap (n + m) old * bytes ≤ 281474976710656) (hbase : base ≤ w.heap.size)
  (h : ∀ v' w', w'.ownsRow base e size v' (n + m) (xs ++ news) → w.grownBy w' v.ownBlock → (v'.ownBlock = v.ownBlock ∨ v'.ownBlock = some w.heap.size) → K (a.put o.dst v') w') :
  if Region.wanted o (yielded ops a.tmps) = true then Oper.wp P o a w K Q else E := by
 have hw : Region.wanted o (yielded ops a.tmps) = true := by simp [Region.wanted, hg]
 rw [if_pos hw]
 obtain ⟨v', w', hr, h2, h3, h4⟩ := run_append_own_at_LibD (P := P) w base t tx o.type e i z size bytes ht hi hz hsize hby hzs v n xs hown xv m news hsrc h63 hbytes hbase
 unfold Oper.wp
 simp [execOp, hop, resolve, invoke, builtin, hs, hx, hr, Result.andThen]
 exact h v' w' h2 h3 h4
section
variable {es : List Addr} {w0 w wA w3 : World} {a : Da} {mm : Nat} {d : Dsk} {X Z : List Nat}
def Da.more (a : Da) (c : Ca) : Da := { a with cs := a.cs ++ [some c] }
def Dsk.kmore (d : Dsk) : Dsk := { d with cl := d.cl ++ [some kl0] }
theorem td_app {ser tk tm nb npl : Int} {v v' : Value} (h0 : RowKit.Below w0.heap.size w0 w) (h1 : w0.heap.size ≤ a.p) (h2 : w.heap[a.p]? = some (.cells #[v, .int .i64 ser, .int .i64 tk, .int .i64 tm, ptz a.sc, ptz a.st, .map (some a.ow), .int .i64 nb, ptz a.us, ptz a.fo, ptz a.sh, ptz a.sk, .map (some a.pl), .int .i64 npl, ptz a.se] 72 (0, 0)))
  (h3 : w.ownsRow w0.heap.size 73 1 v a.cs.length (a.cs.map cpt)) (h4 : v.ownBlock ≠ some a.p) (hb : Below w.heap.size w wA) (c : Ca)
  (o3 : w3.ownsRow w0.heap.size 73 1 v' (a.cs.length + 1) (a.cs.map cpt ++ [ptz c.q])) (g3 : wA.grownBy w3 v.ownBlock) (a3 : v'.ownBlock = v.ownBlock ∨ v'.ownBlock = some wA.heap.size) :
  Nx (Td w0 (a.more c) ser tk tm nb npl) (a.p :: v.ownBlock.toList) w (w3.setCell ⟨a.p, 0, none⟩ v') := by
 have hlq := (Array.getElem?_eq_some_iff.1 h2).1
 have hs := hb.size
 have hnv' : v'.ownBlock ≠ some a.p := by
  rcases a3 with h | h
  ·rw [h]; exact h4
  ·rw [h]; intro h'; have := Option.some.inj h'; omega
 have kw : Kp (a.p :: v.ownBlock.toList) w (w3.setCell ⟨a.p, 0, none⟩ v') := (((kp_of_below hb v.ownBlock.toList).trans (kp_of_grown g3) (fun k hk _ => hk)).mono (fun k hk _ => List.mem_cons_of_mem _ hk)).set ⟨a.p, 0, none⟩ (List.mem_cons_self ..) v'
 have hvar := ((kp_of_below hb v.ownBlock.toList).trans (kp_of_grown g3) (fun k hk _ => hk)).var h2 (fun hm => h4 (by simpa using hm))
 refine ⟨a.p :: v'.ownBlock.toList, ⟨h0.trans (kw.below h0.size (fun k hk => ?_)), h1, v', heap_setCell_same _ _ _ _ _ _ hvar, ?_, hnv', rfl⟩, kw, fun b hb' => ?_⟩
 ·rcases List.mem_cons.1 hk with rfl | h
  ·exact h1
  ·exact (h3.lt k (by simpa using h)).1
 ·have := ownsRow_set o3 ⟨a.p, 0, none⟩ hnv' v'
  simpa [Da.more, cpt] using this
 ·rcases List.mem_cons.1 hb' with rfl | hb'
  ·exact .inl (List.mem_cons_self ..)
  ·rcases a3 with h | h
   ·rw [h] at hb'
    exact .inl (List.mem_cons_of_mem _ hb')
   ·rw [h] at hb'
    simp only [Option.toList_some, List.mem_cons, List.not_mem_nil, or_false] at hb'
    exact .inr (by omega)
theorem clsT_snoc (w0 : World) (c : Ca) (k : Kl) : ∀ (la : List (Option Ca)) (lk : List (Option Kl)) (i : Int), la.length = lk.length → clsT w0 i (la ++ [some c]) (lk ++ [some k]) = clsT w0 i la lk ++ [Tcl w0 c (i + la.length) k]
 | [], [], i, _ => by simp [clsT]
 | [], _ :: _, _, h => by cases h
 | _ :: _, [], _, h => by cases h
 | x :: la, y :: lk, i, h => by
  have ih := clsT_snoc w0 c k la lk (i + 1) (by simpa using h)
  have e : i + 1 + (la.length : Int) = i + ((x :: la).length : Int) := by simp; omega
  rw [e] at ih
  cases x with
  | none =>
   rw [List.cons_append, List.cons_append, clsT, ih, clsT]
   ·intros; contradiction
   ·intros; contradiction
  | some x =>
   cases y with
   | none =>
    rw [List.cons_append, List.cons_append, clsT, ih, clsT]
    ·intros; contradiction
    ·intros; contradiction
   | some y => rw [List.cons_append, List.cons_append, clsT, ih, clsT]; rfl
theorem dke_more {c : Ca} {w' : World} {XC : List Nat} (h : Dke es w0 a mm d w Z) (hn : d.cl.length < 6) (hC : Tcl w0 c (d.cl.length + 1) kl0 w XC) (hX : ∀ b ∈ XC, b ∉ Z)
  (hN : ∀ XT, Td w0 a d.ser d.tk d.tm d.nb d.npl w XT → Nx (Td w0 (a.more c) d.ser d.tk d.tm d.nb d.npl) XT w w') : ∃ Z', Dke es w0 (a.more c) mm d.kmore w' Z' ∧ Kp Z w w' ∧ ∀ b ∈ Z', b ∈ Z ∨ b ∈ XC ∨ w.heap.size ≤ b := by
 obtain ⟨⟨hok, halk, hgn⟩, X, Y, h1, h2, h3, rfl⟩ := h
 obtain ⟨XT, hT, hsub, hlens⟩ := ln_nth (A' := Td w0 (a.more c) d.ser d.tk d.tm d.nb d.npl) 0 (dskT_ft es w0 a mm d) rfl w X h1
 have hNT := hN XT hT
 obtain ⟨X', hX', kX, sX⟩ := hlens w' hNT
 have kT := hNT.kp_of
 have hY' := (clts_ft w0 a d).kept h2 kX (fun b hb => ((core_ft es w0 a mm d).lt h1 b hb).1) (fun b hb hm => h3 b hm hb)
 have hC' := (tcl_ft w0 c _ kl0).kept hC kT (fun b hb => ((td_ft w0 a d.ser d.tk d.tm d.nb d.npl).lt hT b hb).1) (fun b hb hm => hX b hb (List.mem_append_left _ (hsub b hm)))
 have hYlt := fun b hb => ((clts_ft w0 a d).lt h2 b hb).2
 have hClt := fun b hb => ((tcl_ft w0 c _ kl0).lt hC b hb).2
 have hA : alls (Tcl w0 c (d.cl.length + 1) kl0 :: clsT w0 1 a.cs d.cl) w' (XC ++ Y) := ⟨XC, Y, hC', hY', fun b hb hm => hX b hb (List.mem_append_right _ hm), rfl⟩
 obtain ⟨Y', hY2, hYm⟩ := alls_perm (List.perm_append_singleton (Tcl w0 c (d.cl.length + 1) kl0) (clsT w0 1 a.cs d.cl)).symm hA
 have hcl : Clts w0 (a.more c) d.kmore w' Y' := by
  have e : (1 : Int) + (a.cs.length : Int) = d.cl.length + 1 := by rw [halk.1]; omega
  show alls (clsT w0 1 (a.cs ++ [some c]) (d.cl ++ [some kl0])) w' Y'
  rw [clsT_snoc w0 c kl0 a.cs d.cl 1 halk.1, e]
  exact hY2
 have hlen := halk.1
 refine ⟨X' ++ Y', ⟨⟨?_, ?_, ?_⟩, X', Y', hX', hcl, fun b hb hm => ?_, rfl⟩, kX.mono (fun b hb _ => List.mem_append_left _ hb), fun b hb => ?_⟩
 ·obtain ⟨g0, g1, g2, g3, g4, g5, g6, g7, g8, g9, g10, g11, g12⟩ := hok
  refine ⟨g0, g1, g2, g3, g4, g5, by simp [Dsk.kmore]; omega, fun k hk => ?_, g8, g9, g10, g11, g12⟩
  rcases List.mem_append.1 hk with hk | hk
  ·exact g7 k hk
  ·have := Option.some.inj (List.mem_singleton.1 hk)
   subst this
   simp [kl0]
 ·refine ⟨by simp [Da.more, Dsk.kmore, hlen], fun j k hk => ?_⟩
  by_cases hj : j < d.cl.length
  ·rw [show d.kmore.cl = d.cl ++ [some kl0] from rfl, List.getElem?_append_left hj] at hk
   obtain ⟨c', hc'⟩ := halk.2 j k hk
   exact ⟨c', by rw [show (a.more c).cs = a.cs ++ [some c] from rfl, List.getElem?_append_left (by omega)]; exact hc'⟩
  ·have hl := (List.getElem?_eq_some_iff.1 hk).1
   rw [show d.kmore.cl = d.cl ++ [some kl0] from rfl, List.length_append, List.length_singleton] at hl
   obtain rfl : j = a.cs.length := by omega
   exact ⟨c, by rw [show (a.more c).cs = a.cs ++ [some c] from rfl]; simp⟩
 ·intro j hj
  by_cases hl : j < d.cl.length
  ·rw [show d.kmore.cl = d.cl ++ [some kl0] from rfl, List.getElem?_append_left hl] at hj
   rw [show (a.more c).cs = a.cs ++ [some c] from rfl, List.getElem?_append_left (by omega)]
   exact hgn j hj
  ·have hl2 := (List.getElem?_eq_some_iff.1 hj).1
   rw [show d.kmore.cl = d.cl ++ [some kl0] from rfl, List.length_append, List.length_singleton] at hl2
   obtain rfl : j = d.cl.length := by omega
   rw [show d.kmore.cl = d.cl ++ [some kl0] from rfl] at hj
   simp at hj
 ·rcases sX b hb with h | h
  ·rcases List.mem_append.1 ((hYm b).1 hm) with h' | h'
   ·exact hX b h' (List.mem_append_left _ h)
   ·exact h3 b h h'
  ·rcases List.mem_append.1 ((hYm b).1 hm) with h' | h'
   ·have := hClt b h'
    omega
   ·have := hYlt b h'
    omega
 ·rcases List.mem_append.1 hb with hb | hb
  ·rcases sX b hb with h | h
   ·exact .inl (List.mem_append_left _ h)
   ·exact .inr (.inr h)
  ·rcases List.mem_append.1 ((hYm b).1 hb) with h | h
   ·exact .inr (.inl h)
   ·exact .inl (List.mem_append_right _ h)
theorem src_cpt (u : World) (c : Ca) : Src Tryz.prog 1 70 (.slice (some ⟨u.heap.size, 0, none⟩) 1 1) 1 [ptz c.q] (u.alloc (.cells #[ptz c.q] 73)) :=
 Src.ofSlice (P := Tryz.prog) _ Tryz.underlying70 ⟨u.heap.size, 0, none⟩ 1 1 [ptz c.q] rfl (fun q u hu => by
  match q, hu with
  | 0, hu => cases hu; simp [Addr.add]
  | q + 1, hu => simp at hu) (by simp [Value.oneCell'])
theorem dconn_any (h : Dke es w0 a mm d w Z) (hb0 : RowKit.Below w0.heap.size w0 w) (hn : d.cl.length < 6) : Calls Tryz.prog 5 #[ptz a.p] w fun e w' => ∃ c, e = .returned (.tuple #[.int .i64 (d.cl.length + 1), .nilIface]) ∧ Nx (Dke es w0 (a.more c) mm d.kmore) Z w w' := by
 obtain ⟨i0, hi, hz0, hz1, hz2⟩ := info_any infoCpt
 have halk := h.1.2.1.1
 obtain ⟨XT, ⟨_, h1, v, h2, h3, h4, _⟩, _⟩ := h.td
 obtain ⟨xv, cv, rfl, hv1, hv2, _⟩ := own_cells h3
 rw [halk] at hv1 h2 h3 h4
 have C0 : Hid (w.cell? ⟨a.p, 0, none⟩ = some (.slice xv d.cl.length cv)) := by rw [Hid, Lib.cell_of_heap h2]; rfl
 have c0 := C0.out
 have lp : a.p < w.heap.size := (Array.getElem?_eq_some_iff.1 h2).1
 have e1 : decide ((d.cl.length : Int) ≥ 6) = false := decide_eq_false (by omega)
 have HB0 := hid hb0
 have HV := hid h2
 have HROW := hid h3
 have HNV := hid h4
 have HX : Hid (∀ (c : Ca) (u6 : World) (XC : List Nat) (x8 : Option Addr) (k8 : Nat) (u8 : World), Below w.heap.size w u6 → Tcl w0 c (d.cl.length + 1) kl0 u6 XC → (∀ b ∈ XC, w.heap.size ≤ b) → u8.ownsRow w0.heap.size 73 1 (.slice x8 (d.cl.length + 1) k8) (d.cl.length + 1) (a.cs.map cpt ++ [ptz c.q]) → (u6.alloc (.cells #[ptz c.q] 73)).grownBy u8 (Value.slice xv d.cl.length cv).ownBlock →
   ((Value.slice x8 (d.cl.length + 1) k8).ownBlock = (Value.slice xv d.cl.length cv).ownBlock ∨ (Value.slice x8 (d.cl.length + 1) k8).ownBlock = some (u6.alloc (.cells #[ptz c.q] 73)).heap.size) → Nx (Dke es w0 (a.more c) mm d.kmore) Z w (u8.setCell ⟨a.p, 0, none⟩ (.slice x8 (d.cl.length + 1) k8))) := fun c u6 XC x8 k8 u8 hb6 hC hXC o8 g8 a8 => by
  have hZ := (dt_ft es w0 a mm d).lt h
  obtain ⟨Z', q1, q2, q3⟩ := dke_more (w' := u8.setCell ⟨a.p, 0, none⟩ (.slice x8 (d.cl.length + 1) k8)) ((dt_ft es w0 a mm d).on h hb6) hn hC (fun b hb hm => by
   have := hXC b hb
   have := (hZ b hm).2
   omega) (fun XT' hTd => by
   obtain ⟨p0, p1, v', p2, p3, p4, rfl⟩ := hTd
   have hv6 := (kp_of_below hb6 []).var h2 (by simp)
   rw [hv6] at p2
   have hvv : v' = .slice xv d.cl.length cv := by
    simp only [Option.some.injEq, Obj.cells.injEq, Array.mk.injEq, List.cons.injEq, and_true] at p2
    exact p2.symm
   subst hvv
   exact td_app p0 p1 hv6 p3 p4 (bel_mk u6 _) c (by rw [halk]; exact o8) g8 a8)
  refine ⟨Z', q1, (kp_of_below hb6 Z).trans q2 (fun _ h _ => h), fun b hb => ?_⟩
  rcases q3 b hb with h | h | h
  ·exact .inl h
  ·exact .inr (hXC b h)
  ·exact .inr (Nat.le_trans hb6.size h)
 clear h h1 h2 h3 h4 hb0
 go_enter Tryz.func5, Tryz.ntmps5
 go_wp2_with fail
 have hB : Below w.heap.size w w.drew := (Below.refl w.heap.size w).drew
 have hHeld := trivial
 refine wp_region_held_drew (S := fun _ => True) (by kernel_rfl) hHeld (fun _ => ?_)
 generalize w.drew = U0 at *
 refine wpAnyH_take (i := 0) (v := ?_) rfl (by kernel_rfl) (by kernel_rfl) (by kernel_rfl) (fun _ _ _ h => h) (Or.inl ⟨by kernel_rfl, ?hy0⟩) (by assumption) ?_
 case hy0 => (intro w hSw; (try dsimp only at hSw); go_simp; try with_reducible rfl)
 try simp only [Act.put, List.getElem_toArray, List.getElem_cons_zero, List.setIfInBounds_toArray, List.set_cons_zero, List.set_cons_succ]
 refine wpAnyH_take (i := 1) (v := ?_) rfl (by kernel_rfl) (by kernel_rfl) (by kernel_rfl) (fun _ _ _ h => h) (Or.inl ⟨by kernel_rfl, ?hy1⟩) (by assumption) ?_
 case hy1 => (intro w hSw; (try dsimp only at hSw); go_simp; try with_reducible rfl)
 try simp only [Act.put, List.getElem_toArray, List.getElem_cons_zero, List.getElem_cons_succ, List.setIfInBounds_toArray, List.set_cons_zero, List.set_cons_succ]
 refine wpAnyH_take (i := 2) (v := ?_) rfl (by kernel_rfl) (by kernel_rfl) (by kernel_rfl) (fun _ _ _ h => h) (Or.inl ⟨by kernel_rfl, ?hy2⟩) (by assumption) ?_
 case hy2 => (intro w hSw; (try dsimp only at hSw); go_simp; try with_reducible rfl)
 try simp only [Act.put, List.getElem_toArray, List.getElem_cons_zero, List.getElem_cons_succ, List.setIfInBounds_toArray, List.set_cons_zero, List.set_cons_succ]
 refine wpAnyH_take (i := 3) (v := ?_) rfl (by kernel_rfl) (by kernel_rfl) (by kernel_rfl) (fun _ _ _ h => h) (Or.inl ⟨by kernel_rfl, ?hy3⟩) (by assumption) ?_
 case hy3 => (intro w hSw; (try dsimp only at hSw); go_simp; try with_reducible rfl)
 try simp only [Act.put, List.getElem_toArray, List.getElem_cons_zero, List.getElem_cons_succ, List.setIfInBounds_toArray, List.set_cons_zero, List.set_cons_succ]
 refine wpAnyH_take (i := 5) (v := ?_) rfl (by kernel_rfl) (by kernel_rfl) (by kernel_rfl) (fun _ _ _ h => h) (Or.inl ⟨by kernel_rfl, ?hy5⟩) (by assumption) ?_
 case hy5 => (intro w hSw; (try dsimp only at hSw); go_simp; try with_reducible rfl)
 try simp only [Act.put, List.getElem_toArray, List.getElem_cons_zero, List.getElem_cons_succ, List.setIfInBounds_toArray, List.set_cons_zero, List.set_cons_succ]
 refine wpAnyH_ready (rs := [4, 6]) (by kernel_rfl) (by simp) ?_
 refine AllReadyH.cons rfl (fun K hK => ?_) ?_
 ·have ca := (hB.cell lp).trans C0.out
  go_simp
  refine hK.out _ _ trivial (fun _ => ?_)
  clear hK K ca
  try simp only [Act.put, List.getElem_toArray, List.getElem_cons_zero, List.getElem_cons_succ, List.setIfInBounds_toArray, List.set_cons_zero, List.set_cons_succ]
  refine wpAnyH_ready (rs := [6]) (by kernel_rfl) (by simp) ?_
  refine AllReadyH.cons rfl (fun K hK => ?_) AllReadyH.nil
  go_simp
  go_wp2_with fail
  refine (newc_any (Below.on HB0.out hB) _).mono ?_
  rintro e u6 ⟨c, XC, rfl, hC, b6, n6⟩
  have hn6 := hB.size
  have hB6 := Below.on hB b6
  replace hB := Below.on hB b6
  refine hK.out _ _ trivial (fun _ => ?_)
  clear hK K b6
  try simp only [Act.put, List.getElem_toArray, List.getElem_cons_zero, List.getElem_cons_succ, List.setIfInBounds_toArray, List.set_cons_zero, List.set_cons_succ]
  refine wpAnyH_ready (rs := [7]) (by kernel_rfl) (by simp) ?_
  refine AllReadyH.cons rfl (fun K hK => ?_) AllReadyH.nil
  go_simp
  replace hB := Below.on hB (bel_mk u6 (.cells #[ptz c.q] 73))
  refine hK.out _ _ trivial (fun _ => ?_)
  clear hK K
  try simp only [Act.put, List.getElem_toArray, List.getElem_cons_zero, List.getElem_cons_succ, List.setIfInBounds_toArray, List.set_cons_zero, List.set_cons_succ]
  refine wpAnyH_ready (rs := [8]) (by kernel_rfl) (by simp) ?_
  refine AllReadyH.cons rfl (fun K hK => ?_) AllReadyH.nil
  refine step_append_at rfl (.tmp 22) (.tmp 25) 70 70 rfl w0.heap.size 73 i0 (.pointer none) 1 8 Tryz.underlying70 hi hz0 hz1 hz2 rfl _ _ _ (by simp [Act.eval]) (ownsRow_below HROW.out hB) _ 1 _ (by simp [Act.eval]) (src_cpt u6 c) (by simp only [maxLen]; omega) (fits48 (by omega) (by decide)) (Nat.le_trans HB0.out.size hB.size) ?_
  intro v8 u8 o8 g8 a8
  refine hK.out _ _ trivial (fun _ => ?_)
  clear hK K
  try simp only [Act.put, List.getElem_toArray, List.getElem_cons_zero, List.getElem_cons_succ, List.setIfInBounds_toArray, List.set_cons_zero, List.set_cons_succ]
  refine wpAnyH_take (i := 9) (v := ?_) rfl (by kernel_rfl) (by kernel_rfl) (by kernel_rfl) (fun _ _ _ h => h) (Or.inl ⟨by kernel_rfl, ?hy9⟩) (by assumption) ?_
  case hy9 => (intro w hSw; (try dsimp only at hSw); go_simp; try with_reducible rfl)
  try simp only [Act.put, List.getElem_toArray, List.getElem_cons_zero, List.getElem_cons_succ, List.setIfInBounds_toArray, List.set_cons_zero, List.set_cons_succ]
  refine wpAnyH_take (i := 10) (v := ?_) rfl (by kernel_rfl) (by kernel_rfl) (by kernel_rfl) (fun _ _ _ h => h) (Or.inl ⟨by kernel_rfl, ?hy10⟩) (by assumption) ?_
  case hy10 => (intro w hSw; (try dsimp only at hSw); go_simp; try with_reducible rfl)
  try simp only [Act.put, List.getElem_toArray, List.getElem_cons_zero, List.getElem_cons_succ, List.setIfInBounds_toArray, List.set_cons_zero, List.set_cons_succ]
  refine wpAnyH_ready (rs := [11]) (by kernel_rfl) (by simp) ?_
  refine AllReadyH.cons rfl (fun K hK => ?_) AllReadyH.nil
  have hv8 := (kp_of_grown g8).var ((kp_of_below hB []).var HV.out (by simp)) (fun hm => HNV.out (by simpa using hm))
  obtain ⟨x8, k8, rfl, _⟩ := own_cells o8
  have c8 : u8.cell? ⟨a.p, 0, none⟩ = some (.slice xv d.cl.length cv) := (by rw [Lib.cell_of_heap hv8]; rfl)
  have f8 := Lib.frozen_of_heap hv8 0
  have l8 : a.p < u8.heap.size := (Array.getElem?_eq_some_iff.1 hv8).1
  go_simp
  refine hK.out _ _ trivial (fun _ => ?_)
  clear hK K c8 f8 hv8
  try simp only [Act.put, List.getElem_toArray, List.getElem_cons_zero, List.getElem_cons_succ, List.setIfInBounds_toArray, List.set_cons_zero, List.set_cons_succ]
  refine wpAnyH_done (by kernel_rfl) ?_ _
  have HFIN := hid (HX.out c u6 XC _ _ u8 hB6 hC (fun b hb => Nat.le_trans hn6 (n6 b hb)) o8 g8 a8)
  clear o8 g8 a8 hC hB hB6 n6 hn6
  go_wp2
  go_ret2
  exact ⟨c, rfl, HFIN.out⟩
 refine AllReadyH.cons rfl (fun K hK => ?_) ?_
 ·go_simp
  go_wp2_with fail
  refine (newc_any (Below.on HB0.out hB) _).mono ?_
  rintro e u6 ⟨c, XC, rfl, hC, b6, n6⟩
  have hn6 := hB.size
  have hB6 := Below.on hB b6
  replace hB := Below.on hB b6
  refine hK.out _ _ trivial (fun _ => ?_)
  clear hK K b6
  try simp only [Act.put, List.getElem_toArray, List.getElem_cons_zero, List.getElem_cons_succ, List.setIfInBounds_toArray, List.set_cons_zero, List.set_cons_succ]
  refine wpAnyH_ready (rs := [4, 7]) (by kernel_rfl) (by simp) ?_
  refine AllReadyH.cons rfl (fun K hK => ?_) ?_
  ·have ca := (hB.cell lp).trans C0.out
   go_simp
   refine hK.out _ _ trivial (fun _ => ?_)
   clear hK K ca
   try simp only [Act.put, List.getElem_toArray, List.getElem_cons_zero, List.getElem_cons_succ, List.setIfInBounds_toArray, List.set_cons_zero, List.set_cons_succ]
   refine wpAnyH_ready (rs := [7]) (by kernel_rfl) (by simp) ?_
   refine AllReadyH.cons rfl (fun K hK => ?_) AllReadyH.nil
   go_simp
   replace hB := Below.on hB (bel_mk u6 (.cells #[ptz c.q] 73))
   refine hK.out _ _ trivial (fun _ => ?_)
   clear hK K
   try simp only [Act.put, List.getElem_toArray, List.getElem_cons_zero, List.getElem_cons_succ, List.setIfInBounds_toArray, List.set_cons_zero, List.set_cons_succ]
   refine wpAnyH_ready (rs := [8]) (by kernel_rfl) (by simp) ?_
   refine AllReadyH.cons rfl (fun K hK => ?_) AllReadyH.nil
   refine step_append_at rfl (.tmp 22) (.tmp 25) 70 70 rfl w0.heap.size 73 i0 (.pointer none) 1 8 Tryz.underlying70 hi hz0 hz1 hz2 rfl _ _ _ (by simp [Act.eval]) (ownsRow_below HROW.out hB) _ 1 _ (by simp [Act.eval]) (src_cpt u6 c) (by simp only [maxLen]; omega) (fits48 (by omega) (by decide)) (Nat.le_trans HB0.out.size hB.size) ?_
   intro v8 u8 o8 g8 a8
   refine hK.out _ _ trivial (fun _ => ?_)
   clear hK K
   try simp only [Act.put, List.getElem_toArray, List.getElem_cons_zero, List.getElem_cons_succ, List.setIfInBounds_toArray, List.set_cons_zero, List.set_cons_succ]
   refine wpAnyH_take (i := 9) (v := ?_) rfl (by kernel_rfl) (by kernel_rfl) (by kernel_rfl) (fun _ _ _ h => h) (Or.inl ⟨by kernel_rfl, ?hy9⟩) (by assumption) ?_
   case hy9 => (intro w hSw; (try dsimp only at hSw); go_simp; try with_reducible rfl)
   try simp only [Act.put, List.getElem_toArray, List.getElem_cons_zero, List.getElem_cons_succ, List.setIfInBounds_toArray, List.set_cons_zero, List.set_cons_succ]
   refine wpAnyH_take (i := 10) (v := ?_) rfl (by kernel_rfl) (by kernel_rfl) (by kernel_rfl) (fun _ _ _ h => h) (Or.inl ⟨by kernel_rfl, ?hy10⟩) (by assumption) ?_
   case hy10 => (intro w hSw; (try dsimp only at hSw); go_simp; try with_reducible rfl)
   try simp only [Act.put, List.getElem_toArray, List.getElem_cons_zero, List.getElem_cons_succ, List.setIfInBounds_toArray, List.set_cons_zero, List.set_cons_succ]
   refine wpAnyH_ready (rs := [11]) (by kernel_rfl) (by simp) ?_
   refine AllReadyH.cons rfl (fun K hK => ?_) AllReadyH.nil
   have hv8 := (kp_of_grown g8).var ((kp_of_below hB []).var HV.out (by simp)) (fun hm => HNV.out (by simpa using hm))
   obtain ⟨x8, k8, rfl, _⟩ := own_cells o8
   have c8 : u8.cell? ⟨a.p, 0, none⟩ = some (.slice xv d.cl.length cv) := (by rw [Lib.cell_of_heap hv8]; rfl)
   have f8 := Lib.frozen_of_heap hv8 0
   have l8 : a.p < u8.heap.size := (Array.getElem?_eq_some_iff.1 hv8).1
   go_simp
   refine hK.out _ _ trivial (fun _ => ?_)
   clear hK K c8 f8 hv8
   try simp only [Act.put, List.getElem_toArray, List.getElem_cons_zero, List.getElem_cons_succ, List.setIfInBounds_toArray, List.set_cons_zero, List.set_cons_succ]
   refine wpAnyH_done (by kernel_rfl) ?_ _
   have HFIN := hid (HX.out c u6 XC _ _ u8 hB6 hC (fun b hb => Nat.le_trans hn6 (n6 b hb)) o8 g8 a8)
   clear o8 g8 a8 hC hB hB6 n6 hn6
   go_wp2
   go_ret2
   exact ⟨c, rfl, HFIN.out⟩
  refine AllReadyH.cons rfl (fun K hK => ?_) ?_
  ·go_simp
   replace hB := Below.on hB (bel_mk u6 (.cells #[ptz c.q] 73))
   refine hK.out _ _ trivial (fun _ => ?_)
   clear hK K
   try simp only [Act.put, List.getElem_toArray, List.getElem_cons_zero, List.getElem_cons_succ, List.setIfInBounds_toArray, List.set_cons_zero, List.set_cons_succ]
   refine wpAnyH_ready (rs := [4]) (by kernel_rfl) (by simp) ?_
   refine AllReadyH.cons rfl (fun K hK => ?_) AllReadyH.nil
   have ca := (hB.cell lp).trans C0.out
   go_simp
   refine hK.out _ _ trivial (fun _ => ?_)
   clear hK K ca
   try simp only [Act.put, List.getElem_toArray, List.getElem_cons_zero, List.getElem_cons_succ, List.setIfInBounds_toArray, List.set_cons_zero, List.set_cons_succ]
   refine wpAnyH_ready (rs := [8]) (by kernel_rfl) (by simp) ?_
   refine AllReadyH.cons rfl (fun K hK => ?_) AllReadyH.nil
   refine step_append_at rfl (.tmp 22) (.tmp 25) 70 70 rfl w0.heap.size 73 i0 (.pointer none) 1 8 Tryz.underlying70 hi hz0 hz1 hz2 rfl _ _ _ (by simp [Act.eval]) (ownsRow_below HROW.out hB) _ 1 _ (by simp [Act.eval]) (src_cpt u6 c) (by simp only [maxLen]; omega) (fits48 (by omega) (by decide)) (Nat.le_trans HB0.out.size hB.size) ?_
   intro v8 u8 o8 g8 a8
   refine hK.out _ _ trivial (fun _ => ?_)
   clear hK K
   try simp only [Act.put, List.getElem_toArray, List.getElem_cons_zero, List.getElem_cons_succ, List.setIfInBounds_toArray, List.set_cons_zero, List.set_cons_succ]
   refine wpAnyH_take (i := 9) (v := ?_) rfl (by kernel_rfl) (by kernel_rfl) (by kernel_rfl) (fun _ _ _ h => h) (Or.inl ⟨by kernel_rfl, ?hy9⟩) (by assumption) ?_
   case hy9 => (intro w hSw; (try dsimp only at hSw); go_simp; try with_reducible rfl)
   try simp only [Act.put, List.getElem_toArray, List.getElem_cons_zero, List.getElem_cons_succ, List.setIfInBounds_toArray, List.set_cons_zero, List.set_cons_succ]
   refine wpAnyH_take (i := 10) (v := ?_) rfl (by kernel_rfl) (by kernel_rfl) (by kernel_rfl) (fun _ _ _ h => h) (Or.inl ⟨by kernel_rfl, ?hy10⟩) (by assumption) ?_
   case hy10 => (intro w hSw; (try dsimp only at hSw); go_simp; try with_reducible rfl)
   try simp only [Act.put, List.getElem_toArray, List.getElem_cons_zero, List.getElem_cons_succ, List.setIfInBounds_toArray, List.set_cons_zero, List.set_cons_succ]
   refine wpAnyH_ready (rs := [11]) (by kernel_rfl) (by simp) ?_
   refine AllReadyH.cons rfl (fun K hK => ?_) AllReadyH.nil
   have hv8 := (kp_of_grown g8).var ((kp_of_below hB []).var HV.out (by simp)) (fun hm => HNV.out (by simpa using hm))
   obtain ⟨x8, k8, rfl, _⟩ := own_cells o8
   have c8 : u8.cell? ⟨a.p, 0, none⟩ = some (.slice xv d.cl.length cv) := (by rw [Lib.cell_of_heap hv8]; rfl)
   have f8 := Lib.frozen_of_heap hv8 0
   have l8 : a.p < u8.heap.size := (Array.getElem?_eq_some_iff.1 hv8).1
   go_simp
   refine hK.out _ _ trivial (fun _ => ?_)
   clear hK K c8 f8 hv8
   try simp only [Act.put, List.getElem_toArray, List.getElem_cons_zero, List.getElem_cons_succ, List.setIfInBounds_toArray, List.set_cons_zero, List.set_cons_succ]
   refine wpAnyH_done (by kernel_rfl) ?_ _
   have HFIN := hid (HX.out c u6 XC _ _ u8 hB6 hC (fun b hb => Nat.le_trans hn6 (n6 b hb)) o8 g8 a8)
   clear o8 g8 a8 hC hB hB6 n6 hn6
   go_wp2
   go_ret2
   exact ⟨c, rfl, HFIN.out⟩
  exact AllReadyH.nil
 exact AllReadyH.nil
end
end
section
section
variable {es : List Addr} {w0 w w' u u' : World} {a a' : Da} {c : Ca} {i : Int} {k k1 k' : Kl} {mm n m' : Nat} {d d' : Dsk} {X Z : List Nat}
def Sd (es : List Addr) (w0 w : World) (a : Da) (mm : Nat) (d : Dsk) (u : World) : Prop := ∃ Z, Dke es w0 a mm d u Z ∧ Below w.heap.size w u ∧ ∀ b ∈ Z, w.heap.size ≤ b
theorem Sd.on (h : Sd es w0 w a mm d u) (hb : Below u.heap.size u u') : Sd es w0 w a mm d u' := by
 obtain ⟨Z, h1, h2, h3⟩ := h
 exact ⟨Z, (dt_ft es w0 a mm d).on h1 hb, Below.on h2 hb, h3⟩
theorem Sd.bel (h : Sd es w0 w a mm d u) : Below w.heap.size w u := by
 obtain ⟨_, _, h2, _⟩ := h
 exact h2
theorem Sd.low (h : Sd es w0 w a mm d u) : RowKit.Below w0.heap.size w0 u := by
 obtain ⟨_, h1, _, _⟩ := h
 exact dke_bel h1
theorem Sd.nx (h : Sd es w0 w a mm d u) {P : Program} {f : Nat} {args : Array Value} {Q : Ending → World → Prop} (hc : ∀ Z, Dke es w0 a mm d u Z → Calls P f args u fun e u' => Q e u' ∧ Nx (Dke es w0 a' m' d') Z u u') :
  Calls P f args u fun e u' => Q e u' ∧ Sd es w0 w a' m' d' u' := by
 obtain ⟨Z, h1, h2, h3⟩ := h
 refine (hc Z h1).mono fun e u' ⟨q1, Z', q2, q3, q4⟩ => ⟨q1, Z', q2, h2.trans (q3.below h2.size h3), fun b hb => ?_⟩
 rcases q4 b hb with h | h
 ·exact h3 b h
 ·exact Nat.le_trans h2.size h
def D1 (W H : Nat) : Dsk := (ds0 W H (scr0 W H)).kmore
theorem D1_kli (W H : Nat) : (D1 W H).kli 1 = some kl0 := rfl
theorem D1_ev (W H : Nat) (k : Kl) : evD ((D1 W H).kput 1 k) 1 = k.ev ∧ evN ((D1 W H).kput 1 k) 1 = (D1 W H).kput 1 { k with ev := [] } := ⟨rfl, rfl⟩
def OcD (a : Da) : Prop := ∃ c, a.cs[((1 : Int) - 1).toNat]? = some (some c)
theorem sd_new (h0 : RowKit.Below w0.heap.size w0 w) (hE : Errs w0 gerrs es) (hg : 16 ≤ w0.heap.size) (W H : Nat) (hW : 1 ≤ W ∧ W ≤ 48) (hH : 1 ≤ H ∧ H ≤ 48) :
  Calls Tryz.prog 4 #[.int .i64 (W : Nat), .int .i64 (H : Nat)] w fun e u => ∃ a, e = .returned (.tuple #[ptz a.p, .nilIface]) ∧ a.cs = [] ∧ Sd es w0 w a 0 (ds0 W H (scr0 W H)) u :=
 (dnew_any h0 hE hg W H hW hH).mono fun _ _ ⟨a, X, h1, h2, h3, h4, h5⟩ => ⟨a, h1, h2, X, h3, h4, h5⟩
theorem sd_conn {W H : Nat} (h : Sd es w0 w a 0 (ds0 W H (scr0 W H)) u) (ha : a.cs = []) :
  Calls Tryz.prog 5 #[ptz a.p] u fun e u' => ∃ a', a'.p = a.p ∧ e = .returned (.tuple #[.int .i64 1, .nilIface]) ∧ OcD a' ∧ Sd es w0 w a' 0 (D1 W H) u' := by
 obtain ⟨Z, h1, h2, h3⟩ := h
 refine (dconn_any h1 (dke_bel h1) (by simp [ds0])).mono fun e u' ⟨c, q0, Z', q2, q3, q4⟩ => ⟨a.more c, rfl, q0, ⟨c, by rw [Da.more, ha]; rfl⟩, Z', q2, h2.trans (q3.below h2.size h3), fun b hb => ?_⟩
 rcases q4 b hb with h | h
 ·exact h3 b h
 ·exact Nat.le_trans h2.size h
theorem sd_none (hA : All w0 es) (hE : Errs w0 gerrs es) {W H : Nat} (h : Sd es w0 w a mm (D1 W H) u) (ho : OcD a) :
  Calls Tryz.prog 6 #[ptz a.p, .int .i64 1, .agg #[.int .i64 9, .int .i64 0, .string ⟨#[]⟩]] u fun e u' => (∃ v, e = .returned v ∧ FtV u' es v 1 5) ∧ Sd es w0 w a mm (D1 W H) u' := by
 obtain ⟨c, hc⟩ := ho
 exact h.nx fun Z hZ => (noneD_any hA hE hZ (D1_kli W H) hc (by decide) 9 0 (by decide) ⟨#[]⟩ rfl).mono fun e u' ⟨v, h1, h2, h3⟩ => ⟨⟨v, h1, h2⟩, h3⟩
theorem sd_reg (hA : All w0 es) (hE : Errs w0 gerrs es) (hG : Glb w0) {W H : Nat} (h : Sd es w0 w a mm (D1 W H) u) (ho : OcD a) (hm : mm + 1 ≤ 900) :
  Calls Tryz.prog 6 #[ptz a.p, .int .i64 1, .agg #[.int .i64 1, .int .i64 1, .string ⟨(pas l11).toArray⟩]] u fun e u' => e = .returned .nilIface ∧ Sd es w0 w a (mm + 1) ((D1 W H).kput 1 kR) u' := by
 obtain ⟨c, hc⟩ := ho
 exact h.nx fun Z hZ => reg_any hA hE hG hZ (D1_kli W H) hc (by decide) hm rfl rfl
theorem sd_bind (hA : All w0 es) (hE : Errs w0 gerrs es) (hG : Glb w0) {W H : Nat} (h : Sd es w0 w a mm ((D1 W H).kput 1 kRe) u) (ho : OcD a) (hm : mm + 1 ≤ 900)
  {n K v : Int} (hn : 0 ≤ n ∧ n ≤ 6) (hK : 1 ≤ K ∧ K ≤ 17) (hv : 0 ≤ v ∧ v ≤ 6) (hv1 : 1 ≤ v) (hB : bndB (l20 n K v) = true) :
  Calls Tryz.prog 6 #[ptz a.p, .int .i64 1, .agg #[.int .i64 2, .int .i64 0, .string ⟨(pas (l20 n K v)).toArray⟩]] u fun e u' => e = .returned .nilIface ∧ Sd es w0 w a (mm + 1) ((D1 W H).kput 1 (kgreet (kB K v) 9)) u' := by
 obtain ⟨c, hc⟩ := ho
 exact h.nx fun Z hZ => bind_ok hA hE hG hZ (Dsk.kli_put (D1_kli W H)) hc (by decide) hm rfl rfl hn hK hv hv1 hB
theorem sd_bindno (hA : All w0 es) (hE : Errs w0 gerrs es) (hG : Glb w0) {W H : Nat} (h : Sd es w0 w a mm ((D1 W H).kput 1 kRe) u) (ho : OcD a)
  {n K v : Int} (hn : 0 ≤ n ∧ n ≤ 6) (hK : 1 ≤ K ∧ K ≤ 17) (hv : 0 ≤ v ∧ v ≤ 6) (hB : bndB (l20 n K v) = false) :
  Calls Tryz.prog 6 #[ptz a.p, .int .i64 1, .agg #[.int .i64 2, .int .i64 0, .string ⟨(pas (l20 n K v)).toArray⟩]] u fun e u' => (∃ x, e = .returned x ∧ FtV u' es x 2 1) ∧ Sd es w0 w a mm ((D1 W H).kput 1 kRe) u' := by
 obtain ⟨c, hc⟩ := ho
 exact h.nx fun Z hZ => (bind_no hA hE hG hZ (Dsk.kli_put (D1_kli W H)) hc (by decide) hn hK hv hB).mono fun e u' ⟨v, h1, h2, h3⟩ => ⟨⟨v, h1, h2⟩, h3⟩
theorem sd_ev {W H : Nat} {k : Kl} (h : Sd es w0 w a mm ((D1 W H).kput 1 k) u) :
  Calls Tryz.prog 9 #[ptz a.p, .int .i64 1] u fun e u' => (∃ x c, e = .returned (.slice x k.ev.length c) ∧ RdEv u' x k.ev.length c k.ev) ∧ Sd es w0 w a mm ((D1 W H).kput 1 { k with ev := [] }) u' :=
 h.nx fun Z hZ => (dev_any hZ 1 (by decide)).mono fun e u' ⟨x, n, c, h1, h2, h3⟩ => by
  rw [(D1_ev W H k).1] at h2
  obtain rfl := h2.len
  exact ⟨⟨x, c, h1, h2⟩, h3⟩
theorem sd_evf {W H : Nat} {k : Kl} (h : Sd es w0 w a mm ((D1 W H).kput 1 k) u) (hb : Below u.heap.size u u') :
  Calls Tryz.prog 9 #[ptz a.p, .int .i64 1] u' fun e v => (∃ x c, e = .returned (.slice x k.ev.length c) ∧ RdEv v x k.ev.length c k.ev) ∧ Sd es w0 w a mm ((D1 W H).kput 1 { k with ev := [] }) v ∧ ∀ p o, u.heap.size ≤ p → u'.heap[p]? = some o → v.heap[p]? = some o := by
 obtain ⟨Z, h1, h2, h3⟩ := h
 have h2' := Below.on h2 hb
 refine (dev_any ((dt_ft es w0 a mm _).on h1 hb) 1 (by decide)).mono fun e v ⟨x, n, c, q1, q2, Z', r2, r3, r4⟩ => ?_
 rw [(D1_ev W H k).1] at q2
 obtain rfl := q2.len
 refine ⟨⟨x, c, q1, q2⟩, ⟨Z', r2, h2'.trans (r3.below h2'.size h3), fun b hb' => ?_⟩, fun p o hp ho => r3.var ho fun hm => absurd ((dt_ft es w0 a mm _).lt h1 p hm).2 (by omega)⟩
 rcases r4 b hb' with h | h
 ·exact h3 b h
 ·exact Nat.le_trans h2'.size h
theorem sd_face {W H : Nat} {k : Kl} (h : Sd es w0 w a mm ((D1 W H).kput 1 k) u) (id : Int) (hi : -9223372036854775808 ≤ id ∧ id ≤ 9223372036854775807) :
  Calls Tryz.prog 16 #[ptz a.p, .int .i64 1, .int .i64 id] u fun e u' => e = .returned (.int .i64 (k.ids id).1) ∧ Sd es w0 w a mm ((D1 W H).kput 1 k) u' := by
 obtain ⟨Z, h1, h2, h3⟩ := h
 exact (dface_any h1 1 id (by decide) hi).mono fun e u' ⟨q1, q2⟩ => ⟨q1, Sd.on ⟨Z, h1, h2, h3⟩ q2⟩
theorem rda_11 (u : World) : RdA (u.alloc (.cells #[.int .u8 110, .int .i64 2, .string ⟨#[]⟩] 34)) (some ⟨u.heap.size, 0, none⟩) 1 1 l11 := rda_mk u l11 34 (by decide) (fun x hx => by
 obtain rfl : x = anm 110 2 := by simpa [l11] using hx
 exact ⟨by decide, by decide, by decide, by decide⟩)
theorem small_11 : Small l11 := fun x hx => by
 obtain rfl : x = anm 110 2 := by simpa [l11] using hx
 decide
end
end
end Go.Proofs.YtpbgbpcdohdecaaGreatDoor
