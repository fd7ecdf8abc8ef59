/- Lemmas that the proof leans on. -/
import Derived.Test.YtpbgbpcdohdecaaGreatDoorB25
namespace Go.Proofs.YtpbgbpcdohdecaaGreatDoor
open Go Go.RowKit
set_option maxRecDepth 100000
section
variable {base : Nat} {w w' : World} {p m : Nat} {L : Pwl} {id : Int} {es : List Addr} {e : Pw_ShB}
theorem snew_any_ShC (w : World) : Calls Tryz.prog 23 #[] w fun e w' => e = .returned (.pointer (some ⟨w.heap.size + 1, 0, none⟩)) ∧ Below w.heap.size w w' ∧ ∀ base, base ≤ w.heap.size → Sh base w' (w.heap.size + 1) w.heap.size [] := by
 have H0 := hid (World.ownsMap_made w Tryz.prog 3 pwR)
 have hmm := @run_makeMap Tryz.prog
 go_enter Tryz.func23, Tryz.ntmps23
 go_wp2
 go_ret
 have hb : Below w.heap.size w (w.alloc (.map #[] 0)) := (Below.refl w.heap.size w).alloc (Nat.le_refl _) _
 refine ⟨by simp, hb.alloc hb.size _, fun base hbase => ⟨by omega, hbase, by omega, ?_, ⟨_, H0.out.alloc _, rp_empty _ _⟩, List.nodup_nil, ?_, ?_, ?_, ?_⟩⟩
 ·have := heap_alloc_new (w.alloc (.map #[] 0)) (.cells #[.map (some w.heap.size)] 119 (0, 0))
  simpa using this
 ·intro x e h
  cases h
 ·intro x e h
  cases h
 ·intro x e h
  cases h
 ·intro x y e e' h
  cases h
end
section
def Sp (es : List Addr) (w0 : World) (p mm : Nat) (F : Wo) : Th := fun w X => RowKit.Below w0.heap.size w0 w ∧ Errs w0 gerrs es ∧ Wfew mm F ∧ ∃ m L, Sh w0.heap.size w p m L ∧ wab L = F ∧ X = wbl p m L
variable {es : List Addr} {w0 w w' : World} {p mm : Nat} {F : Wo} {X : List Nat}
theorem sp_ft (es : List Addr) (w0 : World) (p mm : Nat) (F : Wo) : Ft w0.heap.size (Sp es w0 p mm F) := by
 refine ⟨fun {w X} h b hb => ?_, fun {w w' X Y} h hk hY hX => ?_⟩
 ·obtain ⟨_, _, _, m, L, h1, _, rfl⟩ := h
  exact h1.blt hb
 ·obtain ⟨h1, h2, h3, m, L, h4, h5, rfl⟩ := h
  exact ⟨h1.trans (hk.below h1.size hY), h2, h3, m, L, h4.kept hk hX, h5, rfl⟩
theorem sp_new (w0 w : World) (hb : Below w0.heap.size w0 w) (hE : Errs w0 gerrs es) : Calls Tryz.prog 23 #[] w fun e w' => ∃ p X, e = .returned (.pointer (some ⟨p, 0, none⟩)) ∧ Sp es w0 p 0 [] w' X ∧ Below w.heap.size w w' ∧ ∀ b ∈ X, w.heap.size ≤ b :=
 (snew_any_ShC w).mono fun _ _ ⟨h1, h2, h3⟩ => ⟨_, _, h1, ⟨Below.on hb h2, hE, wfew_nil, _, _, h3 _ hb.size, rfl, rfl⟩, h2, fun b hb => by
  simp only [wbl, List.flatMap_nil, List.mem_cons, List.not_mem_nil, or_false] at hb
  omega⟩
end
section
abbrev Slh := Option Addr × Nat × Nat
def abl (s : Slh) : List Nat := if 0 < s.2.1 then s.1.toList.map (·.block) else []
theorem mem_abl {s : Slh} {b : Nat} : b ∈ abl s ↔ 0 < s.2.1 ∧ ∃ x, s.1 = some x ∧ x.block = b := by
 unfold abl
 split
 ·rename_i h
  cases hs : s.1 <;> simp [h, eq_comm]
 ·rename_i h
  simp [h]
theorem RdA.kpz {w w' : World} {a : Option Addr} {n c : Nat} {l : List AV} (h : RdA w a n c l) {Y : List Nat} (hk : Kp Y w w') (hY : ∀ b ∈ abl (a, n, c), b ∉ Y) : RdA w' a n c l := by
 refine ⟨h.len, h.le, h.max, h.hnil, fun x hx j u hu => ?_, h.wf⟩
 have h0 : 0 < n := by
  rcases Nat.eq_zero_or_pos n with e | e
  ·have h1 := h.len
   rw [e] at h1
   obtain rfl := List.length_eq_zero_iff.1 h1
   cases hu
  ·exact e
 exact hk.cell (h.cells x hx j u hu) (hY _ (mem_abl.2 ⟨h0, x, hx, by unfold Addr.add; split <;> rfl⟩))
theorem RdC.kpz {w w' : World} {a : Option Addr} {n c : Nat} {l : List Rc} (h : RdC w a n c l) {Y : List Nat} (hk : Kp Y w w') (hY : ∀ b ∈ abl (a, n, c), b ∉ Y) : RdC w' a n c l := by
 refine ⟨h.len, h.le, h.max, h.hnil, fun h0 => ?_, h.ok⟩
 obtain ⟨b, off, rfl, h1, h2⟩ := h.pl h0
 have hb : b ∉ Y := hY b (mem_abl.2 ⟨h0, _, rfl, rfl⟩)
 refine ⟨b, off, rfl, Nat.lt_of_lt_of_le h1 hk.size, fun j r hr => ?_⟩
 have hE := h2 j r hr
 exact ⟨Nat.lt_of_lt_of_le hE.lt hk.size, hk.cell hE.c0 hb, hk.cell hE.c1 hb, hk.cell hE.c2 hb, hk.cell hE.c3 hb⟩
theorem RdC.lowz {w : World} {a : Option Addr} {n c : Nat} {l : List Rc} (h : RdC w a n c l) {b : Nat} (hb : b ∈ abl (a, n, c)) : b < w.heap.size := by
 obtain ⟨h0, x, hx, rfl⟩ := mem_abl.1 hb
 obtain ⟨b, off, e, h1, _⟩ := h.pl h0
 cases hx.symm.trans e
 exact h1
structure Ca where
 q : Nat
 ob : Nat
 me : Nat
 pg : Nat
 ks : Nat
 bs : Nat
 rs : Nat
 ss : Nat
 ws : Nat
structure Da where
 p : Nat
 sc : Nat
 st : Nat
 ow : Nat
 us : Nat
 fo : Nat
 sh : Nat
 sk : Nat
 pl : Nat
 se : Nat
 cs : List (Option Ca)
abbrev ptz (b : Nat) : Value := .pointer (some ⟨b, 0, none⟩)
def evc (e : Evt × Slh) : List Value := [.int .i64 e.1.face, .int .i64 e.1.o, .int .i64 e.1.q, .slice e.2.1 e.2.2.1 e.2.2.2]
abbrev clv (a : Ca) (i : Int) (v : Value) : Array Value := #[.int .i64 i, ptz a.ob, ptz a.me, ptz a.pg, v, .map (some a.ks), .map (some a.bs), .map (some a.rs), .map (some a.ss), .map (some a.ws)]
structure TvR (w0 : World) (a : Ca) (i : Int) (L : List (Evt × Slh)) (v : Value) (w : World) : Prop where
 var : w.heap[a.q]? = some (.cells (clv a i v) 84 (0, 0))
 row : w.ownsRow w0.heap.size 44 4 v L.length (L.flatMap evc)
 arg : ∀ e ∈ L, RdA w e.2.1 e.2.2.1 e.2.2.2 e.1.l
 old : ∀ b ∈ L.flatMap (fun e => abl e.2), w0.heap.size ≤ b ∧ b ≠ a.q ∧ v.ownBlock ≠ some b
 nv : v.ownBlock ≠ some a.q
def tvb (a : Ca) (L : List (Evt × Slh)) (v : Value) : List Nat := a.q :: (v.ownBlock.toList ++ L.flatMap fun e => abl e.2)
def Tv (w0 : World) (a : Ca) (i : Int) (ev : List Evt) : Th := fun w X => RowKit.Below w0.heap.size w0 w ∧ w0.heap.size ≤ a.q ∧ ∃ L v, TvR w0 a i L v w ∧ L.map (·.1) = ev ∧ X = tvb a L v
variable {w0 w w' : World} {a : Ca} {i : Int} {ev : List Evt} {X Z : List Nat}
theorem RdA.lowz {a : Option Addr} {n c : Nat} {l : List AV} (h : RdA w a n c l) {b : Nat} (hb : b ∈ abl (a, n, c)) : b < w.heap.size := by
 obtain ⟨h0, x, hx, rfl⟩ := mem_abl.1 hb
 exact h.low x hx (by rw [h.len]; exact h0)
theorem tv_ft (w0 : World) (a : Ca) (i : Int) (ev : List Evt) : Ft w0.heap.size (Tv w0 a i ev) := by
 refine ⟨fun {w X} h g hg => ?_, fun {w w' X Y} h hk hY hX => ?_⟩
 ·obtain ⟨_, h1, L, v, h2, _, rfl⟩ := h
  rcases List.mem_cons.1 hg with rfl | hg
  ·exact ⟨h1, (Array.getElem?_eq_some_iff.1 h2.var).1⟩
  ·rcases List.mem_append.1 hg with hg | hg
   ·exact h2.row.lt g (by simpa using hg)
   ·refine ⟨(h2.old g hg).1, ?_⟩
    obtain ⟨e, he, hb⟩ := List.mem_flatMap.1 hg
    exact (h2.arg e he).lowz hb
 ·obtain ⟨h0, h1, L, v, h2, h3, rfl⟩ := h
  refine ⟨h0.trans (hk.below h0.size hY), h1, L, v, ⟨hk.var h2.var (hX _ (List.mem_cons_self ..)), hk.row h2.row (fun k hk => hX k ?_), fun e he => (h2.arg e he).kpz hk (fun b hb => hX b ?_), h2.old, h2.nv⟩, h3, rfl⟩
  ·exact List.mem_cons_of_mem _ (List.mem_append_left _ (by simpa using hk))
  ·exact List.mem_cons_of_mem _ (List.mem_append_right _ (List.mem_flatMap.2 ⟨e, he, hb⟩))
abbrev Sla := Option (Nat × Nat) × Nat × Nat
def Sla.h (s : Sla) : Slh := (s.1.map fun p => ⟨p.1, p.2, none⟩, s.2.1, s.2.2)
def lz (n : Nat) : DataW Unit := .lit (.int .i64 n)
def slaR : Value → Option (DataW Unit × List MemPlace)
 | .slice none n c => some (.agg [lz n, lz c], [])
 | .slice (some ⟨b, off, none⟩) n c => some (.agg [lz n, lz c, lz b, lz off], [])
 | _ => none
def slad (s : Sla) : DataW Unit := match s with
 | (none, n, c) => .agg [lz n, lz c]
 | (some (b, off), n, c) => .agg [lz n, lz c, lz b, lz off]
def Tr (w0 : World) (b : Nat) (l : List (Int × List Rc)) : Th := fun w X =>
 ∃ L : List (Int × Sla × List Rc), Mg slaR slad (none, 0, 0) w0 b (L.map fun e => (e.1, e.2.1)) w [b] ∧ (L.map fun e => (e.1, e.2.2)) = l ∧ (∀ e ∈ L, RdC w e.2.1.h.1 e.2.1.h.2.1 e.2.1.h.2.2 e.2.2 ∧ ∀ g ∈ abl e.2.1.h, w0.heap.size ≤ g ∧ g ≠ b) ∧ X = b :: L.flatMap fun e => abl e.2.1.h
theorem tr_ft (w0 : World) (b : Nat) (l : List (Int × List Rc)) : Ft w0.heap.size (Tr w0 b l) := by
 refine ⟨fun {w X} h g hg => ?_, fun {w w' X Y} h hk hY hX => ?_⟩
 ·obtain ⟨L, h1, _, h2, rfl⟩ := h
  rcases List.mem_cons.1 hg with rfl | hg
  ·exact (mg_ft _ _ _ _ _ _).lt h1 g (List.mem_singleton_self _)
  ·obtain ⟨e, he, hb⟩ := List.mem_flatMap.1 hg
   exact ⟨((h2 e he).2 g hb).1, (h2 e he).1.lowz hb⟩
 ·obtain ⟨L, h1, h2, h3, rfl⟩ := h
  exact ⟨L, (mg_ft _ _ _ _ _ _).kept h1 hk hY (fun g hg => hX g (by rw [List.mem_singleton.1 hg]; exact List.mem_cons_self ..)), h2, fun e he => ⟨(h3 e he).1.kpz hk (fun g hg => hX g (List.mem_cons_of_mem _ (List.mem_flatMap.2 ⟨e, he, hg⟩))), (h3 e he).2⟩, rfl⟩
def cltT (w0 : World) (a : Ca) (i : Int) (k : Kl) : List Th := [Tv w0 a i k.ev, Ti w0 a.ob k.ids, Tm w0 a.me k.mem, Tg w0 a.pg k.png, Mzi w0 a.ks k.ks, Mzi w0 a.bs k.bs, Tr w0 a.rs k.rs, Mzi w0 a.ss k.ss, Mzi w0 a.ws k.ws]
theorem cltT_ft (w0 : World) (a : Ca) (i : Int) (k : Kl) : ∀ A ∈ cltT w0 a i k, Ft w0.heap.size A := by
 intro A hA
 simp only [cltT, List.mem_cons, List.not_mem_nil, or_false] at hA
 rcases hA with rfl | rfl | rfl | rfl | rfl | rfl | rfl | rfl | rfl
 ·exact tv_ft _ _ _ _
 ·exact ti_ft _ _ _
 ·exact tm_ft _ _ _
 ·exact tg_ft _ _ _
 ·exact mg_ft _ _ _ _ _ _
 ·exact mg_ft _ _ _ _ _ _
 ·exact tr_ft _ _ _
 ·exact mg_ft _ _ _ _ _ _
 ·exact mg_ft _ _ _ _ _ _
def Tcl (w0 : World) (a : Ca) (i : Int) (k : Kl) : Th := alls (cltT w0 a i k)
theorem tcl_ft (w0 : World) (a : Ca) (i : Int) (k : Kl) : Ft w0.heap.size (Tcl w0 a i k) := alls_ft (cltT_ft w0 a i k)
def clsT (w0 : World) : Int → List (Option Ca) → List (Option Kl) → List Th
 | i, some a :: la, some k :: lk => Tcl w0 a i k :: clsT w0 (i + 1) la lk
 | i, _ :: la, _ :: lk => clsT w0 (i + 1) la lk
 | _, _, _ => []
theorem clsT_ft (w0 : World) : ∀ (la : List (Option Ca)) (ks : List (Option Kl)) (i : Int), ∀ A ∈ clsT w0 i la ks, Ft w0.heap.size A
 | [], _, _, A, h => by simp [clsT] at h
 | a :: la, [], _, A, h => by cases a <;> simp [clsT] at h
 | some a :: la, some k :: ks, i, A, h => by
  rw [clsT] at h
  rcases List.mem_cons.1 h with rfl | h
  ·exact tcl_ft _ _ _ _
  ·exact clsT_ft w0 la ks (i + 1) A h
 | none :: la, k :: ks, i, A, h => by
  rw [clsT] at h
  ·exact clsT_ft w0 la ks (i + 1) A h
  ·intros; contradiction
 | some a :: la, none :: ks, i, A, h => by
  rw [clsT] at h
  ·exact clsT_ft w0 la ks (i + 1) A h
  ·intros; contradiction
def cpt (o : Option Ca) : Value := .pointer (o.map fun a => ⟨a.q, 0, none⟩)
def Td (w0 : World) (a : Da) (ser tk tm nb npl : Int) : Th := fun w X => RowKit.Below w0.heap.size w0 w ∧ w0.heap.size ≤ a.p ∧ ∃ v, w.heap[a.p]? = some (.cells #[v, .int .i64 ser, .int .i64 tk, .int .i64 tm, ptz a.sc, ptz a.st, .map (some a.ow), .int .i64 nb, ptz a.us, ptz a.fo, ptz a.sh, ptz a.sk, .map (some a.pl), .int .i64 npl, ptz a.se] 72 (0, 0)) ∧
 w.ownsRow w0.heap.size 73 1 v a.cs.length (a.cs.map cpt) ∧ v.ownBlock ≠ some a.p ∧ X = a.p :: v.ownBlock.toList
theorem td_ft (w0 : World) (a : Da) (ser tk tm nb npl : Int) : Ft w0.heap.size (Td w0 a ser tk tm nb npl) := by
 refine ⟨fun {w X} h g hg => ?_, fun {w w' X Y} h hk hY hX => ?_⟩
 ·obtain ⟨_, h1, v, h2, h3, _, rfl⟩ := h
  rcases List.mem_cons.1 hg with rfl | hg
  ·exact ⟨h1, (Array.getElem?_eq_some_iff.1 h2).1⟩
  ·exact h3.lt g (by simpa using hg)
 ·obtain ⟨h0, h1, v, h2, h3, h4, rfl⟩ := h
  exact ⟨h0.trans (hk.below h0.size hY), h1, v, hk.var h2 (hX _ (List.mem_cons_self ..)), hk.row h3 (fun k hk => hX k (List.mem_cons_of_mem _ (by simpa using hk))), h4, rfl⟩
def dskT (es : List Addr) (w0 : World) (a : Da) (mm : Nat) (d : Dsk) : List Th :=
 [Td w0 a d.ser d.tk d.tm d.nb d.npl, Tc w0 a.sc d.W d.H d.px, Tp w0 a.st d.pl d.bf, Mt [0, 0] w0 a.ow d.ow, Tu w0 a.us d.us d.told, Pq_PgT es w0 a.fo mm d.fo, Sp es w0 a.sh mm d.sh, Tk w0 a.sk d.stk, Mt [0, 0, 0] w0 a.pl d.pls, Ts_ThP w0 a.se d.x d.y d.P d.K]
theorem dskT_ft (es : List Addr) (w0 : World) (a : Da) (mm : Nat) (d : Dsk) : ∀ A ∈ dskT es w0 a mm d, Ft w0.heap.size A := by
 intro A hA
 simp only [dskT, List.mem_cons, List.not_mem_nil, or_false] at hA
 rcases hA with rfl | rfl | rfl | rfl | rfl | rfl | rfl | rfl | rfl | rfl
 ·exact td_ft _ _ _ _ _ _ _
 ·exact tc_ft _ _ _ _ _
 ·exact tp_ft _ _ _ _
 ·exact mg_ft _ _ _ _ _ _
 ·exact tu_ft _ _ _ _
 ·exact pq_ft _ _ _ _ _
 ·exact sp_ft _ _ _ _ _
 ·exact tk_ft _ _ _
 ·exact mg_ft _ _ _ _ _ _
 ·exact ts_ft _ _ _ _ _ _
def Core (es : List Addr) (w0 : World) (a : Da) (mm : Nat) (d : Dsk) : Th := alls (dskT es w0 a mm d)
theorem core_ft (es : List Addr) (w0 : World) (a : Da) (mm : Nat) (d : Dsk) : Ft w0.heap.size (Core es w0 a mm d) := alls_ft (dskT_ft es w0 a mm d)
def Clts (w0 : World) (a : Da) (d : Dsk) : Th := alls (clsT w0 1 a.cs d.cl)
theorem clts_ft (w0 : World) (a : Da) (d : Dsk) : Ft w0.heap.size (Clts w0 a d) := alls_ft (clsT_ft w0 _ _ _)
def Alk (la : List (Option Ca)) (ks : List (Option Kl)) : Prop := la.length = ks.length ∧ ∀ j : Nat, ∀ k, ks[j]? = some (some k) → ∃ a, la[j]? = some (some a)
def Gns (la : List (Option Ca)) (ks : List (Option Kl)) : Prop := ∀ j : Nat, ks[j]? = some none → la[j]? = some none
def Dke (es : List Addr) (w0 : World) (a : Da) (mm : Nat) (d : Dsk) : Th := fun w X => (Dok mm d ∧ Alk a.cs d.cl ∧ Gns a.cs d.cl) ∧ sbs (Core es w0 a mm d) (Clts w0 a d) w X
theorem dt_ft (es : List Addr) (w0 : World) (a : Da) (mm : Nat) (d : Dsk) : Ft w0.heap.size (Dke es w0 a mm d) := by
 have h := sbs_ft (core_ft es w0 a mm d) (clts_ft w0 a d)
 exact ⟨fun hX b hb => h.lt hX.2 b hb, fun hX hk hY hX' => ⟨hX.1, h.kept hX.2 hk hY hX'⟩⟩
end
section
section
variable {B : Nat} {A A' T T' T'' : Th} {L : List Th}
theorem Ln.imp (h : Ln T A T' A') (hi : ∀ w X, T' w X → T'' w X) : Ln T A T'' A' := fun w Z hT => by
 obtain ⟨X, h1, h2, h3⟩ := h w Z hT
 exact ⟨X, h1, h2, fun w' hN => (h3 w' hN).imp fun X' h => hi w' X' h⟩
theorem ln_nth (n : Nat) (hF : ∀ A ∈ L, Ft B A) (hn : L[n]? = some A) : Ln (alls L) A (alls (L.set n A')) A' := by
 have hlt := (List.getElem?_eq_some_iff.1 hn).1
 have e1 : L = L.take n ++ A :: L.drop (n + 1) := by
  conv => lhs; rw [← List.take_append_drop n L, List.drop_eq_getElem_cons hlt]
  rw [(List.getElem?_eq_some_iff.1 hn).2]
 have e2 : L.set n A' = L.take n ++ A' :: L.drop (n + 1) := List.set_eq_take_append_cons_drop .. |>.trans (if_pos hlt)
 have hA : Ft B A := hF A (List.mem_of_getElem? hn)
 have h := ln_at (A' := A') (pre := L.take n) (post := L.drop (n + 1)) hA (fun C hC => hF C (List.mem_of_mem_drop hC)) (fun C hC => hF C (List.mem_of_mem_take hC))
 rw [← e1, ← e2] at h
 exact h
end
section
variable {es : List Addr} {w0 w w' : World} {a : Ca} {i : Int} {k : Kl} {X Z : List Nat}
theorem lcl_ev (e : List Evt) : Ln (Tcl w0 a i k) (Tv w0 a i k.ev) (Tcl w0 a i { k with ev := e }) (Tv w0 a i e) := ln_nth 0 (cltT_ft w0 a i k) rfl
theorem lcl_ids (s : Int → Int × Int) : Ln (Tcl w0 a i k) (Ti w0 a.ob k.ids) (Tcl w0 a i { k with ids := s }) (Ti w0 a.ob s) := ln_nth 1 (cltT_ft w0 a i k) rfl
theorem clsT_at (w0 : World) : ∀ (la : List (Option Ca)) (ks : List (Option Kl)) (i : Int) (j : Nat) (a : Ca) (k : Kl), la[j]? = some (some a) → ks[j]? = some (some k) →
  ∃ pre post, clsT w0 i la ks = pre ++ Tcl w0 a (i + j) k :: post ∧ ∀ k', clsT w0 i la (ks.set j (some k')) = pre ++ Tcl w0 a (i + j) k' :: post
 | [], _, _, _, _, _, h, _ => by simp at h
 | _ :: _, [], _, _, _, _, _, h => by simp at h
 | x :: la, y :: ks, i, 0, a, k, h1, h2 => by
  simp only [List.getElem?_cons_zero, Option.some.injEq] at h1 h2
  subst h1 h2
  refine ⟨[], clsT w0 (i + 1) la ks, ?_, fun k' => ?_⟩
  ·simp [clsT]
  ·simp [clsT]
 | x :: la, y :: ks, i, j + 1, a, k, h1, h2 => by
  simp only [List.getElem?_cons_succ] at h1 h2
  obtain ⟨pre, post, h3, h4⟩ := clsT_at w0 la ks (i + 1) j a k h1 h2
  have e : (i + 1 : Int) + j = i + ((j + 1 : Nat) : Int) := by omega
  rw [e] at h3 h4
  cases x with
  | none =>
   refine ⟨pre, post, ?_, fun k' => ?_⟩
   ·rw [clsT, h3]
    intros; contradiction
   ·rw [List.set_cons_succ, clsT, h4 k']
    intros; contradiction
  | some x =>
   cases y with
   | none =>
    refine ⟨pre, post, ?_, fun k' => ?_⟩
    ·rw [clsT, h3]
     intros; contradiction
    ·rw [List.set_cons_succ, clsT, h4 k']
     intros; contradiction
   | some y => exact ⟨Tcl w0 x i y :: pre, post, by rw [clsT, h3]; rfl, fun k' => by rw [List.set_cons_succ, clsT, h4 k']; rfl⟩
variable {da : Da} {d d' : Dsk} {mm n : Nat}
theorem sbs_imp {A A' C C' : Th} (hA : ∀ w X, A w X → A' w X) (hC : ∀ w X, C w X → C' w X) {w : World} {X : List Nat} (h : sbs A C w X) : sbs A' C' w X := by
 obtain ⟨X1, Y1, h1, h2, h3, h4⟩ := h
 exact ⟨X1, Y1, hA _ _ h1, hC _ _ h2, h3, h4⟩
def Imps : List Th → List Th → Prop
 | [], [] => True
 | A :: l, A' :: l' => (∀ w X, A w X → A' w X) ∧ Imps l l'
 | _, _ => False
theorem alls_imp : ∀ {l l' : List Th}, Imps l l' → ∀ {w : World} {X : List Nat}, alls l w X → alls l' w X
 | [], [], _, _, _, h => h
 | [], _ :: _, h, _, _, _ => h.elim
 | _ :: _, [], h, _, _, _ => h.elim
 | _ :: _, _ :: _, h, _, _, hX => sbs_imp h.1 (fun _ _ => alls_imp h.2) hX
theorem sp_upto {p : Nat} {F : Wo} {w : World} {X : List Nat} (h : Sp es w0 p mm F w X) (hn : mm ≤ n) : Sp es w0 p n F w X := by
 obtain ⟨h1, h2, h3, h4⟩ := h
 exact ⟨h1, h2, h3.mono hn, h4⟩
theorem core_up (hn : mm ≤ n) (h : Core es w0 da mm d w Z) : Core es w0 da n d w Z :=
 alls_imp (l := dskT es w0 da mm d) (l' := dskT es w0 da n d) ⟨fun _ _ h => h, fun _ _ h => h, fun _ _ h => h, fun _ _ h => h, fun _ _ h => h, fun _ _ h => pq_mono h hn, fun _ _ h => sp_upto h hn, fun _ _ h => h, fun _ _ h => h, fun _ _ h => h, trivial⟩ h
theorem Dke.ca (h : Dke es w0 da mm d w Z) (hk : d.kli i = some k) : ∃ c, da.cs[(i - 1).toNat]? = some (some c) := h.1.2.1.2 _ _ (Dsk.kli_at hk).2
theorem alk_set {la : List (Option Ca)} {ks : List (Option Kl)} {j : Nat} {k k' : Kl} (h : Alk la ks) (hk : ks[j]? = some (some k)) : Alk la (ks.set j (some k')) := by
 refine ⟨by rw [List.length_set]; exact h.1, fun m x hm => ?_⟩
 by_cases e : j = m
 ·subst e
  exact h.2 _ _ hk
 ·rw [List.getElem?_set_ne e] at hm
  exact h.2 _ _ hm
theorem gns_set {la : List (Option Ca)} {ks : List (Option Kl)} {j : Nat} {k' : Kl} (h : Gns la ks) : Gns la (ks.set j (some k')) := fun m hm => by
 by_cases e : j = m
 ·subst e
  by_cases hj : j < ks.length
  ·rw [List.getElem?_set_self hj] at hm
   cases hm
  ·rw [List.getElem?_eq_none (by rw [List.length_set]; omega)] at hm
   cases hm
 ·rw [List.getElem?_set_ne e] at hm
  exact h m hm
theorem ldt_cl {c : Ca} {k' : Kl} (hk : d.kli i = some k) (hc : da.cs[(i - 1).toNat]? = some (some c)) (hn : Dok mm d → Dok mm (d.kput i k')) : Ln (Dke es w0 da mm d) (Tcl w0 c i k) (Dke es w0 da mm (d.kput i k')) (Tcl w0 c i k') := by
 obtain ⟨hi, hk1⟩ := Dsk.kli_at hk
 obtain ⟨pre, post, h1, h2⟩ := clsT_at w0 da.cs d.cl 1 (i - 1).toNat c k hc hk1
 have e : (1 : Int) + ((i - 1).toNat : Int) = i := by omega
 rw [e] at h1 h2
 refine Ln.cond (p' := Dok mm (d.kput i k') ∧ Alk da.cs (d.kput i k').cl ∧ Gns da.cs (d.kput i k').cl) (fun _ => Ln.trans (ln_right (C' := Clts w0 da (d.kput i k')) (core_ft es w0 da mm d) (clts_ft w0 da d)) ?_) (fun h => ⟨hn h.1, alk_set h.2.1 hk1, gns_set h.2.2⟩)
 rw [Clts, Clts, Dsk.kput, h1, h2 k']
 have hF := clsT_ft w0 da.cs d.cl 1
 rw [h1] at hF
 exact ln_at (hF _ (by simp)) (fun C hC => hF C (by simp [hC])) (fun C hC => hF C (by simp [hC]))
theorem ldt_at {A A' : Th} (j : Nat) (hA : (dskT es w0 da mm d)[j]? = some A) (hs : ∀ w X, alls ((dskT es w0 da mm d).set j A') w X → Core es w0 da n d' w X) (hc : d'.cl = d.cl) (hn : Dok mm d → Dok n d') : Ln (Dke es w0 da mm d) A (Dke es w0 da n d') A' := by
 refine Ln.cond (p' := Dok n d' ∧ Alk da.cs d'.cl ∧ Gns da.cs d'.cl) (fun _ => ?_) (fun h => ⟨hn h.1, by rw [hc]; exact h.2⟩)
 have h1 := ln_nth (A' := A') j (dskT_ft es w0 da mm d) hA
 have h2 : Ln (sbs (Core es w0 da mm d) (Clts w0 da d)) A (sbs (alls ((dskT es w0 da mm d).set j A')) (Clts w0 da d)) A' := Ln.trans (ln_left (core_ft es w0 da mm d) (clts_ft w0 da d)) h1
 refine h2.imp fun w X h => ?_
 obtain ⟨Y, Y', h3, h4, h5, rfl⟩ := h
 refine ⟨Y, Y', hs _ _ h3, ?_, h5, rfl⟩
 rw [Clts, hc]
 exact h4
end
end
section
def errv (a : Addr) : Bool → Value
 | true => .nilIface
 | false => .iface 392 (.pointer (some a))
theorem rqS_none {f o : Int} (h : (rqAt f o).isSome = false) : rqS f o = [] := by
 rw [rqS]
 cases hq : rqAt f o with
 | none => rfl
 | some x => rw [hq] at h; cases h
theorem evS_none {f o : Int} (h : (evAt f o).isSome = false) : evS f o = [] := by
 rw [evS]
 cases hq : evAt f o with
 | none => rfl
 | some x => rw [hq] at h; cases h
theorem below_drewN_SigC {B : Nat} {u v : World} (h : Below B u v) (q : Nat) : Below B u (v.drewN q) := ⟨h.os, h.tape, h.output, h.size, h.block⟩
theorem Request_any (f o : Int) (w : World) (a : Addr) (hm : w.cell? ⟨7, 0, none⟩ = some (.iface 392 (.pointer (some a)))) :
  Calls Tryz.prog 42 #[.int .i64 f, .int .i64 o] w fun e w' => e = .returned (.tuple #[.string ⟨(rqS f o).toArray⟩, errv a (rqAt f o).isSome]) ∧ Below w.heap.size w w' := by
 have HM : Hid (w.cell? ⟨7, 0, none⟩ = some (.iface 392 (.pointer (some a)))) := hm
 have HC : Hid (∀ _ : Unit, Calls Tryz.prog 71 #[.int .i64 f, .int .i64 o] w fun e w' => e = .returned (.tuple #[.agg #[.string ⟨(rqS f o).toArray⟩, .int .i64 (rqM f o), .bool (rqB f o)], .bool (rqAt f o).isSome]) ∧ Below w.heap.size w w') := fun _ => requestAt_any f o w
 have HS : Hid ((rqAt f o).isSome = false → rqS f o = []) := rqS_none
 clear hm
 generalize rqS f o = qs at *
 generalize rqM f o = qm at *
 generalize rqB f o = qb at *
 generalize (rqAt f o).isSome = qi at *
 cases qi
 ·obtain rfl : qs = [] := HS.out rfl
  clear HS
  go_enter Tryz.func42, Tryz.ntmps42
  go_wp2_with (go_at_call 71; refine (HC.out ()).mono ?_; rintro e w' ⟨rfl, hb⟩; have hm : w'.cell? ⟨7, 0, none⟩ = some (.iface 392 (.pointer (some a))) := (by rw [hb.cell (World.block_lt_of_cell? w _ HM.out)]; exact HM.out); have hl := World.block_lt_of_cell? w' _ hm; have HB : Hid (Below w.heap.size w w') := hb; clear hb)
  go_quiet (fail)
  go_wp2
  go_ret2
  exact ⟨rfl, below_drewN_SigC (HB.out.alloc HB.out.size _) _⟩
 ·clear HS
  go_enter Tryz.func42, Tryz.ntmps42
  go_wp2_with (go_at_call 71; refine (HC.out ()).mono ?_; rintro e w' ⟨rfl, hb⟩; have HB : Hid (Below w.heap.size w w') := hb; clear hb)
  go_ret2
  exact ⟨rfl, HB.out.alloc HB.out.size _⟩
theorem Event_any (f o : Int) (w : World) (a : Addr) (hm : w.cell? ⟨7, 0, none⟩ = some (.iface 392 (.pointer (some a)))) :
  Calls Tryz.prog 102 #[.int .i64 f, .int .i64 o] w fun e w' => e = .returned (.tuple #[.string ⟨(evS f o).toArray⟩, errv a (evAt f o).isSome]) ∧ Below w.heap.size w w' := by
 have HM : Hid (w.cell? ⟨7, 0, none⟩ = some (.iface 392 (.pointer (some a)))) := hm
 have HC : Hid (∀ _ : Unit, Calls Tryz.prog 162 #[.int .i64 f, .int .i64 o] w fun e w' => e = .returned (.tuple #[.string ⟨(evS f o).toArray⟩, .bool (evAt f o).isSome]) ∧ Below w.heap.size w w') := fun _ => eventAt_any f o w
 have HS : Hid ((evAt f o).isSome = false → evS f o = []) := evS_none
 clear hm
 generalize evS f o = qs at *
 generalize (evAt f o).isSome = qi at *
 cases qi
 ·obtain rfl : qs = [] := HS.out rfl
  clear HS
  go_enter Tryz.func102, Tryz.ntmps102
  go_wp2_with (go_at_call 162; refine (HC.out ()).mono ?_; rintro e w' ⟨rfl, hb⟩; have hm : w'.cell? ⟨7, 0, none⟩ = some (.iface 392 (.pointer (some a))) := (by rw [hb.cell (World.block_lt_of_cell? w _ HM.out)]; exact HM.out); have HB : Hid (Below w.heap.size w w') := hb; clear hb)
  go_quiet (fail)
  go_wp2
  go_ret2
  exact ⟨rfl, below_drewN_SigC HB.out _⟩
 ·clear HS
  go_enter Tryz.func102, Tryz.ntmps102
  go_wp2_with (go_at_call 162; refine (HC.out ()).mono ?_; rintro e w' ⟨rfl, hb⟩; have HB : Hid (Below w.heap.size w w') := hb; clear hb)
  go_ret2
  exact ⟨rfl, HB.out⟩
theorem Makes_any (f o : Int) (w : World) :
  Calls Tryz.prog 74 #[.int .i64 f, .int .i64 o] w fun e w' => e = .returned (.int .i64 (rqM f o)) ∧ Below w.heap.size w w' := by
 go_enter Tryz.func74, Tryz.ntmps74
 go_wp2_with (go_at_call 71; refine (requestAt_any f o w).mono ?_; rintro e w' ⟨rfl, hb⟩; have HB : Hid (Below w.heap.size w w') := hb; clear hb)
 go_ret
 exact ⟨rfl, HB.out.alloc HB.out.size _⟩
theorem Ends_any (f o : Int) (w : World) :
  Calls Tryz.prog 48 #[.int .i64 f, .int .i64 o] w fun e w' => e = .returned (.bool (rqB f o)) ∧ Below w.heap.size w w' := by
 go_enter Tryz.func48, Tryz.ntmps48
 go_wp2_with (go_at_call 71; refine (requestAt_any f o w).mono ?_; rintro e w' ⟨rfl, hb⟩; have HB : Hid (Below w.heap.size w w') := hb; clear hb)
 go_ret
 exact ⟨rfl, HB.out.alloc HB.out.size _⟩
def nmT : List (List UInt8) := [[], [119, 108, 95, 100, 105, 115, 112, 108, 97, 121], [119, 108, 95, 114, 101, 103, 105, 115, 116, 114, 121], [119, 108, 95, 99, 97, 108, 108, 98, 97, 99, 107], [119, 108, 95, 99, 111, 109, 112, 111, 115, 105, 116, 111, 114], [119, 108, 95, 115, 104, 109], [119, 108, 95, 115, 104, 109, 95, 112, 111, 111, 108], [119, 108, 95, 98, 117, 102, 102, 101, 114], [119, 108, 95, 115, 117, 114, 102, 97, 99, 101], [119, 108, 95, 114, 101, 103, 105, 111, 110], [119, 108, 95, 115, 117, 98, 99, 111, 109, 112, 111, 115, 105, 116, 111, 114], [119, 108, 95, 115, 117, 98, 115, 117, 114, 102, 97, 99, 101], [119, 108, 95, 115, 101, 97, 116], [119, 108, 95, 112, 111, 105, 110, 116, 101, 114], [119, 108, 95, 107, 101, 121, 98, 111, 97, 114, 100], [120, 100, 103, 95, 119, 109, 95, 98, 97, 115, 101], [120, 100, 103, 95, 115, 117, 114, 102, 97, 99, 101], [120, 100, 103, 95, 116, 111, 112, 108, 101, 118, 101, 108]]
theorem names_any (w : World) :
  Calls Tryz.prog 118 #[] w fun e w' => e = .returned (.agg (strs nmT).toArray) ∧ Below w.heap.size w w' := by
 go_enter Tryz.func118, Tryz.ntmps118
 go_upto_region 1 with fail
 refine wp_region_lit ?_
 refine wpList_buildTo rfl 246 _ rfl _ rfl (strs nmT).toArray (by kernel_rfl) ?_
 refine wpList_frame (a' := ⟨#[.pointer (some ⟨w.heap.size, 0, none⟩), .agg (strs nmT).toArray], []⟩) (by kernel_rfl) ?_
 refine wpList_store_rowTo rfl 246 _ _ rfl rfl w.heap.size (strs nmT).toArray (by kernel_rfl) (by kernel_rfl) 246 _ (heap_alloc_last w _) (by kernel_rfl) (by kernel_rfl) (by kernel_rfl) ?_
 rw [World.setRow_alloc_new]
 go_wp2
 exact bodyPost_ret (v := .agg (strs nmT).toArray) (results_cell_row rfl _ _ w.heap.size 246 _ (0, 0) _ rfl (heap_alloc_last w _) Tryz.underlying246 rfl (by kernel_rfl)) rfl ⟨rfl, below1 _ _⟩
theorem idx_run (t e : TypeId) (n : Nat) (hu : Tryz.prog.underlying t = some (.array n e)) (he : e = 9) (cs : Array Value) (k : Nat) (s : ByteArray) (hk : k < n) (hx : cs[k]? = some (.string s)) (w : World) :
  Sem.run Tryz.prog (Instr.index t (.agg cs) (.int .i64 k)) w = .ok (.string s) w := by
 subst he
 have hz : ∀ u, Sem.run Tryz.prog (sizeOf 9) u = .ok 1 u := fun u => by kernel_rfl
 have ha : ∀ u, Sem.run Tryz.prog (isAgg 9) u = .ok false u := fun u => by kernel_rfl
 simp [Instr.index, asIntOf, run_underlying hu, hz, part, ha, hx, hk]
def nmS (f : Int) : List UInt8 := if 0 ≤ f ∧ f < 18 then nmT.getD f.toNat [] else []
theorem Name_any (f : Int) (w : World) :
  Calls Tryz.prog 117 #[.int .i64 f] w fun e w' => e = .returned (.string ⟨(nmS f).toArray⟩) ∧ Below w.heap.size w w' := by
 by_cases h1 : f < 0
 ·have e : nmS f = [] := if_neg (by omega)
  rw [e]
  have h1' : decide (f < 0) = true := decide_eq_true h1
  go_enter Tryz.func117, Tryz.ntmps117
  go_wp2
  go_ret
  exact ⟨rfl, Below.refl _ _⟩
 by_cases h2 : 18 ≤ f
 ·have e : nmS f = [] := if_neg (by omega)
  rw [e]
  have h1' : decide (f < 0) = false := decide_eq_false h1
  have h2' : decide (18 ≤ f) = true := decide_eq_true h2
  go_enter Tryz.func117, Tryz.ntmps117
  go_wp2
  go_ret
  exact ⟨rfl, Below.refl _ _⟩
 ·obtain ⟨k, rfl⟩ : ∃ k : Nat, f = k := ⟨f.toNat, by omega⟩
  have e : nmS k = nmT.getD k [] := if_pos (by omega)
  rw [e]
  have h1' : decide ((k : Int) < 0) = false := decide_eq_false h1
  have h2' : decide (18 ≤ (k : Int)) = false := decide_eq_false h2
  have hk : k < 18 := by omega
  have HC : Hid (∀ u : World, Calls Tryz.prog 118 #[] u fun e w' => e = .returned (.agg (strs nmT).toArray) ∧ Below u.heap.size u w') := names_any
  have hx : (strs nmT).toArray[k]? = some (.string ⟨(nmT.getD k []).toArray⟩) := by
   rw [List.getElem?_toArray, strs, List.getElem?_map, List.getD, List.getElem?_eq_getElem (show k < nmT.length from hk)]
   rfl
  have hi := fun u => idx_run 246 9 18 Tryz.underlying246 rfl (strs nmT).toArray k _ hk hx u
  clear hx
  generalize (strs nmT).toArray = cs at *
  go_enter Tryz.func117, Tryz.ntmps117
  go_wp2_with (go_at_call 118; refine (HC.out _).mono ?_; rintro e w' ⟨rfl, hb⟩; have HB : Hid (Below w.heap.size w w') := hb; clear hb)
  go_ret
  exact ⟨rfl, HB.out⟩
end
end Go.Proofs.YtpbgbpcdohdecaaGreatDoor
