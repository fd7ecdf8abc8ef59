/- The program's seat: New, Move, Look, Keys, Gone, Focus, Place. -/
import Derived.Test.YtegmolmjoiklpaaSeF
namespace Go.Proofs.Ytegmolmjoiklpaa
open Go Go.RowKit Go.Shelf

/-- A seat: where the pointer is, who has it, who has the keys. -/
structure Se (w : World) (p : Nat) (x y P K : Int) : Prop where
  obj : w.heap[p]? = some (.cells #[.int .i64 x, .int .i64 y, .int .i64 P, .int .i64 K] 69 (0, 0))
  hx : -16777216 ≤ x ∧ x ≤ 16777216
  hy : -16777216 ≤ y ∧ y ≤ 16777216
theorem Se.lt {w : World} {p : Nat} {x y P K : Int} (h : Se w p x y P K) : p < w.heap.size := (Array.getElem?_eq_some_iff.1 h.obj).1
theorem Se.cells {w : World} {p : Nat} {x y P K : Int} (h : Se w p x y P K) : w.cell? ⟨p, 0, none⟩ = some (.int .i64 x) ∧ w.cell? ⟨p, 1, none⟩ = some (.int .i64 y) ∧ w.cell? ⟨p, 2, none⟩ = some (.int .i64 P) ∧ w.cell? ⟨p, 3, none⟩ = some (.int .i64 K) :=
  ⟨(Lib.cell_of_heap h.obj 0).trans rfl, (Lib.cell_of_heap h.obj 1).trans rfl, (Lib.cell_of_heap h.obj 2).trans rfl, (Lib.cell_of_heap h.obj 3).trans rfl⟩
theorem Se.fz {w : World} {p : Nat} {x y P K : Int} (h : Se w p x y P K) (k : Nat) : w.frozen? ⟨p, k, none⟩ = false := Lib.frozen_of_heap h.obj k
theorem Se.on {w u : World} {p : Nat} {x y P K : Int} (h : Se w p x y P K) (hb : Below w.heap.size w u) : Se u p x y P K := ⟨(hb.block p h.lt).trans h.obj, h.hx, h.hy⟩
theorem Se.kp {X : List Nat} {w u : World} {p : Nat} {x y P K : Int} (h : Se w p x y P K) (hb : Kp X w u) (hX : p ∉ X) : Se u p x y P K := ⟨hb.var h.obj hX, h.hx, h.hy⟩
theorem Se.set2 {w : World} {p : Nat} {x y P K : Int} (h : Se w p x y P K) (s : Int) : Se (w.setCell ⟨p, 2, none⟩ (.int .i64 s)) p x y s K := ⟨heap_setCell_same _ p 2 _ _ _ h.obj, h.hx, h.hy⟩
theorem Se.set3 {w : World} {p : Nat} {x y P K : Int} (h : Se w p x y P K) (s : Int) : Se (w.setCell ⟨p, 3, none⟩ (.int .i64 s)) p x y P s := ⟨heap_setCell_same _ p 3 _ _ _ h.obj, h.hx, h.hy⟩
theorem Se.set01 {w : World} {p : Nat} {x y P K : Int} (h : Se w p x y P K) {a b : Int} (ha : -16777216 ≤ a ∧ a ≤ 16777216) (hb : -16777216 ≤ b ∧ b ≤ 16777216) : Se ((w.setCell ⟨p, 0, none⟩ (.int .i64 a)).setCell ⟨p, 1, none⟩ (.int .i64 b)) p a b P K := ⟨heap_setCell_same _ p 1 _ _ _ (heap_setCell_same _ p 0 _ _ _ h.obj), ha, hb⟩
theorem kp_set (w : World) (p k : Nat) (v : Value) : Kp [p] w (w.setCell ⟨p, k, none⟩ v) := (Kp.refl [p] w).set ⟨p, k, none⟩ (by simp) v

/-- What a call that tells notes leaves. -/
structure SeR (w w' : World) (p : Nat) (v : Value) (l : List (List Int)) (x y P K : Int) : Prop where
  own : w'.ownsRow w.heap.size 56 4 v l.length (mcs l)
  size : ∀ y ∈ l, y.length = 4
  kp : Kp [p] w w'
  se : Se w' p x y P K
theorem rdm_own {m e base : Nat} {u : World} {v : Value} {l : List (List Int)} (h : u.ownsRow base e m v l.length (mcs l)) (hs : ∀ y ∈ l, y.length = m) : ∃ a c, v = .slice a l.length c ∧ RdM m u a l.length c l ∧ ∀ x, a = some x → base ≤ x.block ∧ x.block < u.heap.size := by
  rcases h.2 with ⟨rfl, h0⟩ | ⟨g, cap, cur, rfl, hb, hg, hn, hm, _, _⟩
  · have hl := List.eq_nil_of_length_eq_zero h0
    subst hl
    exact ⟨none, 0, rfl, RdM.nil m u, fun x hx => by cases hx⟩
  · refine ⟨some ⟨g, 0, none⟩, cap, rfl, ⟨rfl, hn, hm, (fun h => by cases h), fun _ => ⟨g, 0, rfl, (h.lt g rfl).2, fun j y hy i z hz => ?_⟩, hs⟩, fun x hx => ?_⟩
    · have hlt : j * m + i < l.length * m := by
        rw [← mcs_length hs]
        exact (List.getElem?_eq_some_iff.1 (mcs_at hs hy hz)).1
      rw [Nat.zero_add, h.cellAt _ hlt]
      exact mcs_at hs hy hz
    · cases hx
      exact ⟨hb, (Array.getElem?_eq_some_iff.1 hg).1⟩
theorem SeR.rd {w w' : World} {p : Nat} {v : Value} {l : List (List Int)} {x y P K : Int} (h : SeR w w' p v l x y P K) : ∃ a c, v = .slice a l.length c ∧ RdM 4 w' a l.length c l ∧ ∀ q, a = some q → w.heap.size ≤ q.block ∧ q.block < w'.heap.size := rdm_own h.own h.size

theorem rdm_one (U : World) (z0 z1 z2 z3 : Int) (T : Nat) : RdM 4 (U.alloc (.cells #[.int .i64 z0, .int .i64 z1, .int .i64 z2, .int .i64 z3] T)) (some ⟨U.heap.size, 0, none⟩) 1 1 [[z0, z1, z2, z3]] := by
  have h0 := hp_nw U (.cells #[.int .i64 z0, .int .i64 z1, .int .i64 z2, .int .i64 z3] T) rfl
  refine ⟨rfl, Nat.le_refl _, by simp [maxLen], (fun h => by cases h), fun _ => ⟨_, 0, rfl, by simp, fun j y hy i z hz => ?_⟩, by simp⟩
  match j, hy with
  | 0, hy =>
    cases hy
    rw [Lib.cell_of_heap h0]
    match i, hz with
    | 0, hz => cases hz; rfl
    | 1, hz => cases hz; rfl
    | 2, hz => cases hz; rfl
    | 3, hz => cases hz; rfl
theorem rdm_two (U : World) (z0 z1 z2 z3 y0 y1 y2 y3 : Int) (T : Nat) : RdM 4 (U.alloc (.cells #[.int .i64 z0, .int .i64 z1, .int .i64 z2, .int .i64 z3, .int .i64 y0, .int .i64 y1, .int .i64 y2, .int .i64 y3] T)) (some ⟨U.heap.size, 0, none⟩) 2 2 [[z0, z1, z2, z3], [y0, y1, y2, y3]] := by
  have h0 := hp_nw U (.cells #[.int .i64 z0, .int .i64 z1, .int .i64 z2, .int .i64 z3, .int .i64 y0, .int .i64 y1, .int .i64 y2, .int .i64 y3] T) rfl
  refine ⟨rfl, Nat.le_refl _, by simp [maxLen], (fun h => by cases h), fun _ => ⟨_, 0, rfl, by simp, fun j y hy i z hz => ?_⟩, by simp⟩
  match j, hy with
  | 0, hy =>
    cases hy
    rw [Lib.cell_of_heap h0]
    match i, hz with
    | 0, hz => cases hz; rfl
    | 1, hz => cases hz; rfl
    | 2, hz => cases hz; rfl
    | 3, hz => cases hz; rfl
  | 1, hy =>
    cases hy
    rw [Lib.cell_of_heap h0]
    match i, hz with
    | 0, hz => cases hz; rfl
    | 1, hz => cases hz; rfl
    | 2, hz => cases hz; rfl
    | 3, hz => cases hz; rfl

/-- A number cut to where the pointer may be. -/
def clp (z : Int) : Int := max (-16777216) (min z 16777216)
theorem clp_in (z : Int) : -16777216 ≤ clp z ∧ clp z ≤ 16777216 := by unfold clp; omega

theorem snew_any (w : World) : Calls Try.prog 8 #[] w fun e w' => e = .returned (.pointer (some ⟨w.heap.size, 0, none⟩)) ∧ Se w' w.heap.size 0 0 0 0 ∧ Below w.heap.size w w' := by
  go_enter Try.func8, Try.ntmps8
  go_wp2
  go_ret
  exact ⟨rfl, ⟨hp_nw w _ rfl, by omega, by omega⟩, bel_nw w _⟩

/-- A focus, when one is gone. -/
def gon (P s : Int) : Int := if P = s then 0 else P
set_option maxRecDepth 100000 in
theorem sgone_any {w : World} {p : Nat} {x y P K : Int} (h : Se w p x y P K) (s : Int) :
    Calls Try.prog 19 #[.pointer (some ⟨p, 0, none⟩), .int .i64 s] w fun e w' => (∃ v, e = .returned v) ∧ Se w' p x y (gon P s) (gon K s) ∧ Kp [p] w w' := by
  obtain ⟨c0, c1, c2, c3⟩ := h.cells
  have f2 := h.fz 2
  have f3 := h.fz 3
  have hlp := h.lt
  have HS := hid h
  clear h
  by_cases hP : P = s
  · have e1 : gon P s = 0 := if_pos hP
    have HA := hid (HS.out.set2 0)
    obtain ⟨d0, d1, d2, d3⟩ := HA.out.cells
    have g3 := HA.out.fz 3
    have HE1 := hid e1
    clear e1
    by_cases hKs : K = s
    · have HE2 : Hid (gon K s = 0) := if_pos hKs
      have HB := hid (HA.out.set3 0)
      go_enter Try.func19, Try.ntmps19
      go_wp2
      go_end0
      rw [HE1.out, HE2.out]
      exact ⟨⟨_, rfl⟩, HB.out, (kp_set _ _ _ _).trans (kp_set _ _ _ _) (fun k hk _ => hk)⟩
    · have HE2 : Hid (gon K s = K) := if_neg hKs
      go_enter Try.func19, Try.ntmps19
      go_wp2
      go_end0
      rw [HE1.out, HE2.out]
      exact ⟨⟨_, rfl⟩, HA.out, kp_set _ _ _ _⟩
  · have e1 : gon P s = P := if_neg hP
    have HE1 := hid e1
    clear e1
    by_cases hKs : K = s
    · have HE2 : Hid (gon K s = 0) := if_pos hKs
      have HB := hid (HS.out.set3 0)
      go_enter Try.func19, Try.ntmps19
      go_wp2
      go_end0
      rw [HE1.out, HE2.out]
      exact ⟨⟨_, rfl⟩, HB.out, kp_set _ _ _ _⟩
    · have HE2 : Hid (gon K s = K) := if_neg hKs
      go_enter Try.func19, Try.ntmps19
      go_wp2
      go_end0
      rw [HE1.out, HE2.out]
      exact ⟨⟨_, rfl⟩, HS.out, Kp.refl _ _⟩

set_option maxRecDepth 100000 in
theorem sfocus_any {w : World} {p : Nat} {x y P K : Int} (h : Se w p x y P K) :
    Calls Try.prog 23 #[.pointer (some ⟨p, 0, none⟩)] w fun e w' => e = .returned (.tuple #[.int .i64 P, .int .i64 K]) ∧ ∃ q, w' = w.drewN q := by
  obtain ⟨c0, c1, c2, c3⟩ := h.cells
  clear h
  go_enter Try.func23, Try.ntmps23
  go_wp2
  go_quiet (fail)
  go_wp2
  go_ret2
  exact ⟨rfl, _, rfl⟩
set_option maxRecDepth 100000 in
theorem splace_any {w : World} {p : Nat} {x y P K : Int} (h : Se w p x y P K) :
    Calls Try.prog 24 #[.pointer (some ⟨p, 0, none⟩)] w fun e w' => e = .returned (.tuple #[.int .i64 x, .int .i64 y]) ∧ ∃ q, w' = w.drewN q := by
  obtain ⟨c0, c1, c2, c3⟩ := h.cells
  clear h
  go_enter Try.func24, Try.ntmps24
  go_wp2
  go_quiet (fail)
  go_wp2
  go_ret2
  exact ⟨rfl, _, rfl⟩

theorem swithin_any (z : Int) (w : World) : Calls Try.prog 36 #[.int .i64 z] w fun e w' => e = .returned (.int .i64 (clp z)) ∧ w' = w := by
  go_enter Try.func36, Try.ntmps36
  go_wp2
  go_ret
  exact ⟨rfl, rfl⟩

/-- An iterator of notes, as give answers it. -/
structure GvR (w : World) (p i : Nat) (s : Int) (l : List (List Int)) (e : Ending) (w' : World) (g : Nat) (a : Option Addr) (n c : Nat) : Prop where
  ret : e = .returned (.func (.func 49) #[] #[.pointer (some ⟨g, 0, none⟩)])
  ke : KE g a n c l w'
  bel : Below w.heap.size (w.setCell ⟨p, i, none⟩ (.int .i64 s)) w'
set_option maxRecDepth 100000 in
theorem give_any {w : World} {p i : Nat} {old : Int} (hc : w.cell? ⟨p, i, none⟩ = some (.int .i64 old)) (hf : w.frozen? ⟨p, i, none⟩ = false) (s x y : Int) :
    Calls Try.prog 35 #[.pointer (some ⟨p, i, none⟩), .int .i64 s, .int .i64 x, .int .i64 y] w fun e w' => ∃ g a n c, GvR w p i s (ntR old s x y) e w' g a n c := by
  obtain ⟨W, hW⟩ : ∃ W, W = w.setCell ⟨p, i, none⟩ (.int .i64 s) := ⟨_, rfl⟩
  have hsz : W.heap.size = w.heap.size := by rw [hW]; simp
  have HW := hid hW
  by_cases ho : old = s
  · subst ho
    have HL : Hid (ntR old old x y = [[3, old, x, y]]) := if_pos rfl
    have HR := hid (rdm_one W 3 old x y 56)
    rw [hsz] at HR
    have HB := hid (bel_nw W (.cells #[.int .i64 3, .int .i64 old, .int .i64 x, .int .i64 y] 56))
    rw [hsz] at HB
    subst hW
    clear hsz
    go_enter Try.func35, Try.ntmps35
    go_wp2_with fail
    refine (each_any _ _ _ _).mono ?_
    rintro e w1 ⟨rfl, rfl⟩
    go_wp2
    go_ret
    rw [HL.out]
    exact ⟨_, _, _, _, rfl, ⟨cell_nw _ _ _ (by simp), HR.out.on (bel_nw _ _)⟩, HB.out.trans ((bel_nw _ _).mono (by simp))⟩
  · have HL : Hid (ntR old s x y = [[2, old, 0, 0], [1, s, x, y]]) := if_neg ho
    have HR := hid (rdm_two W 2 old 0 0 1 s x y 56)
    rw [hsz] at HR
    have HB := hid (bel_nw W (.cells #[.int .i64 2, .int .i64 old, .int .i64 0, .int .i64 0, .int .i64 1, .int .i64 s, .int .i64 x, .int .i64 y] 56))
    rw [hsz] at HB
    subst hW
    clear hsz
    go_enter Try.func35, Try.ntmps35
    go_wp2_with fail
    refine (each_any _ _ _ _).mono ?_
    rintro e w1 ⟨rfl, rfl⟩
    go_wp2
    go_ret
    rw [HL.out]
    exact ⟨_, _, _, _, rfl, ⟨cell_nw _ _ _ (by simp), HR.out.on (bel_nw _ _)⟩, HB.out.trans ((bel_nw _ _).mono (by simp))⟩

/-- As point leaves it: the iterator, and the seat with the new focus. -/
structure PtR (w : World) (p : Nat) (l : List (List Int)) (x y P K : Int) (e : Ending) (w' : World) (g : Nat) (a : Option Addr) (n c : Nat) : Prop where
  ret : e = .returned (.func (.func 49) #[] #[.pointer (some ⟨g, 0, none⟩)])
  ke : KE g a n c l w'
  se : Se w' p x y P K
  kp : Kp [p] w w'
theorem below_kp {p i : Nat} {w w' : World} {v : Value} (h : Below w.heap.size (w.setCell ⟨p, i, none⟩ v) w') : Kp [p] w w' :=
  (kp_set w p i v).trans (kp_of_below (by simpa using h) []) (fun k hk => by cases hk)
set_option maxRecDepth 100000 in
set_option maxHeartbeats 1000000 in
theorem spoint_any {w : World} {p : Nat} {x y P K : Int} (h : Se w p x y P K) (a : Option Addr) (n c : Nat) (hs : List Ht) (hr : RdH w a n c hs) :
    Calls Try.prog 33 #[.pointer (some ⟨p, 0, none⟩), .slice a n c] w fun e w' => ∃ g b m d, PtR w p (ntR P (atL hs x y).1 (atL hs x y).2.1 (atL hs x y).2.2) x y (atL hs x y).1 K e w' g b m d := by
  have hx := h.hx
  have hy := h.hy
  have HS := hid h
  have HR := hid hr
  have CA := hid (fun u hu => sat_any a n c hs x y (by omega) (by omega) u (HR.out.on hu))
  clear h hr
  generalize atL hs x y = A at CA ⊢
  obtain ⟨s, ix, iy⟩ := A
  go_enter Try.func33, Try.ntmps33
  go_wp2
  have hb0 : RowKit.Below w.heap.size w w.drew := (Below.refl _ _).drew
  refine wp_region_held_drew (S := fun u => Se u p x y P K) (by kernel_rfl) ?hh (fun hHeld => ?_)
  case hh => exact (HS.out.on hb0)
  refine wpAnyH_take (i := 0) (v := ?_) rfl (by kernel_rfl) (by kernel_rfl) (by kernel_rfl) (fun _ _ _ h => h) (Or.inl ⟨by kernel_rfl, ?hy0⟩) (by assumption) ?_
  case hy0 => (intro w hSw; (try dsimp only at hSw); obtain ⟨c0, c1, c2, c3⟩ := hSw.cells; go_simp; try with_reducible rfl)
  try simp only [Act.put, List.getElem_toArray, List.getElem_cons_zero, List.setIfInBounds_toArray, List.set_cons_zero, List.set_cons_succ]
  refine wpAnyH_take (i := 1) (v := ?_) rfl (by kernel_rfl) (by kernel_rfl) (by kernel_rfl) (fun _ _ _ h => h) (Or.inl ⟨by kernel_rfl, ?hy1⟩) (by assumption) ?_
  case hy1 => (intro w hSw; (try dsimp only at hSw); obtain ⟨c0, c1, c2, c3⟩ := hSw.cells; go_simp; try with_reducible rfl)
  try simp only [Act.put, List.getElem_toArray, List.getElem_cons_zero, List.getElem_cons_succ, List.setIfInBounds_toArray, List.set_cons_zero, List.set_cons_succ]
  refine wpAnyH_take (i := 2) (v := ?_) rfl (by kernel_rfl) (by kernel_rfl) (by kernel_rfl) (fun _ _ _ h => h) (Or.inl ⟨by kernel_rfl, ?hy2⟩) (by assumption) ?_
  case hy2 => (intro w hSw; (try dsimp only at hSw); obtain ⟨c0, c1, c2, c3⟩ := hSw.cells; go_simp; try with_reducible rfl)
  try simp only [Act.put, List.getElem_toArray, List.getElem_cons_zero, List.getElem_cons_succ, List.setIfInBounds_toArray, List.set_cons_zero, List.set_cons_succ]
  refine wpAnyH_take (i := 3) (v := ?_) rfl (by kernel_rfl) (by kernel_rfl) (by kernel_rfl) (fun _ _ _ h => h) (Or.inl ⟨by kernel_rfl, ?hy3⟩) (by assumption) ?_
  case hy3 => (intro w hSw; (try dsimp only at hSw); obtain ⟨c0, c1, c2, c3⟩ := hSw.cells; go_simp; try with_reducible rfl)
  try simp only [Act.put, List.getElem_toArray, List.getElem_cons_zero, List.getElem_cons_succ, List.setIfInBounds_toArray, List.set_cons_zero, List.set_cons_succ]
  refine wpAnyH_take (i := 4) (v := ?_) rfl (by kernel_rfl) (by kernel_rfl) (by kernel_rfl) (fun _ _ _ h => h) (Or.inl ⟨by kernel_rfl, ?hy4⟩) (by assumption) ?_
  case hy4 => (intro w hSw; (try dsimp only at hSw); obtain ⟨c0, c1, c2, c3⟩ := hSw.cells; go_simp; try with_reducible rfl)
  try simp only [Act.put, List.getElem_toArray, List.getElem_cons_zero, List.getElem_cons_succ, List.setIfInBounds_toArray, List.set_cons_zero, List.set_cons_succ]
  refine wpAnyH_take (i := 5) (v := ?_) rfl (by kernel_rfl) (by kernel_rfl) (by kernel_rfl) (fun _ _ _ h => h) (Or.inl ⟨by kernel_rfl, ?hy5⟩) (by assumption) ?_
  case hy5 => (intro w hSw; (try dsimp only at hSw); obtain ⟨c0, c1, c2, c3⟩ := hSw.cells; go_simp; try with_reducible rfl)
  try simp only [Act.put, List.getElem_toArray, List.getElem_cons_zero, List.getElem_cons_succ, List.setIfInBounds_toArray, List.set_cons_zero, List.set_cons_succ]
  refine wpAnyH_take (i := 6) (v := ?_) rfl (by kernel_rfl) (by kernel_rfl) (by kernel_rfl) (fun _ _ _ h => h) (Or.inl ⟨by kernel_rfl, ?hy6⟩) (by assumption) ?_
  case hy6 => (intro w hSw; (try dsimp only at hSw); obtain ⟨c0, c1, c2, c3⟩ := hSw.cells; go_simp; try with_reducible rfl)
  try simp only [Act.put, List.getElem_toArray, List.getElem_cons_zero, List.getElem_cons_succ, List.setIfInBounds_toArray, List.set_cons_zero, List.set_cons_succ]
  refine wpAnyH_take (i := 7) (v := ?_) rfl (by kernel_rfl) (by kernel_rfl) (by kernel_rfl) (fun _ _ _ h => h) (Or.inl ⟨by kernel_rfl, ?hy7⟩) (by assumption) ?_
  case hy7 => (intro w hSw; (try dsimp only at hSw); obtain ⟨c0, c1, c2, c3⟩ := hSw.cells; go_simp; try with_reducible rfl)
  try simp only [Act.put, List.getElem_toArray, List.getElem_cons_zero, List.getElem_cons_succ, List.setIfInBounds_toArray, List.set_cons_zero, List.set_cons_succ]
  refine wpAnyH_take (i := 8) (v := ?_) rfl (by kernel_rfl) (by kernel_rfl) (by kernel_rfl) (fun _ _ _ h => h) (Or.inl ⟨by kernel_rfl, ?hy8⟩) (by assumption) ?_
  case hy8 => (intro w hSw; (try dsimp only at hSw); obtain ⟨c0, c1, c2, c3⟩ := hSw.cells; go_simp; try with_reducible rfl)
  try simp only [Act.put, List.getElem_toArray, List.getElem_cons_zero, List.getElem_cons_succ, List.setIfInBounds_toArray, List.set_cons_zero, List.set_cons_succ]
  refine wpAnyH_ready (rs := [9]) (by kernel_rfl) (by simp) ?_
  refine AllReadyH.cons rfl (fun K hK => ?_) AllReadyH.nil
  go_simp
  go_wp2_with fail
  refine (CA.out _ hb0).mono ?_
  rintro e u2 ⟨rfl, hb2⟩
  have hs2 := hHeld.on hb2
  refine hK.out _ _ hs2 (fun _ => ?_)
  clear hK K hHeld
  have hHeld := hs2
  clear hs2
  refine wpAnyH_take (i := 10) (v := ?_) rfl (by kernel_rfl) (by kernel_rfl) (by kernel_rfl) (fun _ _ _ h => h) (Or.inl ⟨by kernel_rfl, ?hy10⟩) (by assumption) ?_
  case hy10 => (intro w hSw; (try dsimp only at hSw); obtain ⟨c0, c1, c2, c3⟩ := hSw.cells; go_simp; try with_reducible rfl)
  try simp only [Act.put, List.getElem_toArray, List.getElem_cons_zero, List.getElem_cons_succ, List.setIfInBounds_toArray, List.set_cons_zero, List.set_cons_succ]
  refine wpAnyH_take (i := 11) (v := ?_) rfl (by kernel_rfl) (by kernel_rfl) (by kernel_rfl) (fun _ _ _ h => h) (Or.inl ⟨by kernel_rfl, ?hy11⟩) (by assumption) ?_
  case hy11 => (intro w hSw; (try dsimp only at hSw); obtain ⟨c0, c1, c2, c3⟩ := hSw.cells; go_simp; try with_reducible rfl)
  try simp only [Act.put, List.getElem_toArray, List.getElem_cons_zero, List.getElem_cons_succ, List.setIfInBounds_toArray, List.set_cons_zero, List.set_cons_succ]
  refine wpAnyH_take (i := 12) (v := ?_) rfl (by kernel_rfl) (by kernel_rfl) (by kernel_rfl) (fun _ _ _ h => h) (Or.inl ⟨by kernel_rfl, ?hy12⟩) (by assumption) ?_
  case hy12 => (intro w hSw; (try dsimp only at hSw); obtain ⟨c0, c1, c2, c3⟩ := hSw.cells; go_simp; try with_reducible rfl)
  try simp only [Act.put, List.getElem_toArray, List.getElem_cons_zero, List.getElem_cons_succ, List.setIfInBounds_toArray, List.set_cons_zero, List.set_cons_succ]
  refine wpAnyH_take (i := 13) (v := ?_) rfl (by kernel_rfl) (by kernel_rfl) (by kernel_rfl) (fun _ _ _ h => h) (Or.inl ⟨by kernel_rfl, ?hy13⟩) (by assumption) ?_
  case hy13 => (intro w hSw; (try dsimp only at hSw); obtain ⟨c0, c1, c2, c3⟩ := hSw.cells; go_simp; try with_reducible rfl)
  try simp only [Act.put, List.getElem_toArray, List.getElem_cons_zero, List.getElem_cons_succ, List.setIfInBounds_toArray, List.set_cons_zero, List.set_cons_succ]
  refine wpAnyH_take (i := 14) (v := ?_) rfl (by kernel_rfl) (by kernel_rfl) (by kernel_rfl) (fun _ _ _ h => h) (Or.inl ⟨by kernel_rfl, ?hy14⟩) (by assumption) ?_
  case hy14 => (intro w hSw; (try dsimp only at hSw); obtain ⟨c0, c1, c2, c3⟩ := hSw.cells; go_simp; try with_reducible rfl)
  try simp only [Act.put, List.getElem_toArray, List.getElem_cons_zero, List.getElem_cons_succ, List.setIfInBounds_toArray, List.set_cons_zero, List.set_cons_succ]
  refine wpAnyH_take (i := 15) (v := ?_) rfl (by kernel_rfl) (by kernel_rfl) (by kernel_rfl) (fun _ _ _ h => h) (Or.inl ⟨by kernel_rfl, ?hy15⟩) (by assumption) ?_
  case hy15 => (intro w hSw; (try dsimp only at hSw); obtain ⟨c0, c1, c2, c3⟩ := hSw.cells; go_simp; try with_reducible rfl)
  try simp only [Act.put, List.getElem_toArray, List.getElem_cons_zero, List.getElem_cons_succ, List.setIfInBounds_toArray, List.set_cons_zero, List.set_cons_succ]
  refine wpAnyH_take (i := 16) (v := ?_) rfl (by kernel_rfl) (by kernel_rfl) (by kernel_rfl) (fun _ _ _ h => h) (Or.inl ⟨by kernel_rfl, ?hy16⟩) (by assumption) ?_
  case hy16 => (intro w hSw; (try dsimp only at hSw); obtain ⟨c0, c1, c2, c3⟩ := hSw.cells; go_simp; try with_reducible rfl)
  try simp only [Act.put, List.getElem_toArray, List.getElem_cons_zero, List.getElem_cons_succ, List.setIfInBounds_toArray, List.set_cons_zero, List.set_cons_succ]
  refine wpAnyH_done (by kernel_rfl) ?_ _
  have hb3 := Below.on hb0 hb2
  have HH := hid hHeld
  obtain ⟨c0, c1, c2, c3⟩ := hHeld.cells
  have f2 := hHeld.fz 2
  have hl2 := hHeld.lt
  have CG := hid (give_any c2 f2 s ix iy)
  have HB3 := hid hb3
  clear hHeld hb3 hb2
  -- HERE
  go_wp2_with fail
  refine CG.out.mono ?_
  rintro e w3 ⟨g, b, m, d, hG⟩
  obtain ⟨rfl, hk, hb⟩ := hG
  go_wp2
  go_ret
  exact ⟨g, b, m, d, rfl, hk, (HH.out.set2 s).on (by simpa using hb), (kp_of_below HB3.out [p]).trans (below_kp hb) (fun k hk _ => hk)⟩

theorem egE : ∀ args w, (callFunc 49 args).run Try.prog w = .ok (.enter 49 args) w := enters_of Try.func49 (by kernel_rfl) rfl
theorem movN_len (old s x y : Int) : (movN old s x y).length ≤ 1000 := by
  have h : (ntR old s x y).length ≤ 2 := by unfold ntR; split <;> simp
  have := List.length_filter_le (fun n => sur n != 0) (ntR old s x y)
  unfold movN smb
  omega
theorem lokN_len (old s x y : Int) : (lokN old s x y).length ≤ 1000 := by
  have := List.length_filter_le (fun n => knd n != 3) (movN old s x y)
  have := movN_len old s x y
  unfold lokN stl
  omega
theorem KE.all {g : Nat} {a : Option Addr} {n c : Nat} {l : List (List Int)} {W : World} (h : KE g a n c l W) : ∀ W', Below W.heap.size W W' → KE g a n c l W' := fun _ hb => h.on (Nat.le_refl _) hb

set_option maxRecDepth 100000 in
set_option maxHeartbeats 1000000 in
theorem smove_any {w : World} {p : Nat} {x y P K : Int} (h : Se w p x y P K) (zx zy : Int) (a : Option Addr) (n c : Nat) (hs : List Ht) (hr : RdH w a n c hs) (hX : Apt [p] a n hs) :
    Calls Try.prog 21 #[.pointer (some ⟨p, 0, none⟩), .int .i64 zx, .int .i64 zy, .slice a n c] w fun e w' => ∃ v, e = .returned v ∧ SeR w w' p v (movN P (atL hs (clp zx) (clp zy)).1 (atL hs (clp zx) (clp zy)).2.1 (atL hs (clp zx) (clp zy)).2.2) (clp zx) (clp zy) (atL hs (clp zx) (clp zy)).1 K := by
  obtain ⟨c0, c1, c2, c3⟩ := h.cells
  have f0 := h.fz 0
  have f1 := h.fz 1
  have hlp := h.lt
  have hS2 := h.set01 (clp_in zx) (clp_in zy)
  obtain ⟨W, hW⟩ : ∃ W, W = (w.setCell ⟨p, 0, none⟩ (.int .i64 (clp zx))).setCell ⟨p, 1, none⟩ (.int .i64 (clp zy)) := ⟨_, rfl⟩
  have hkW : Kp [p] w W := by rw [hW]; exact (kp_set _ _ _ _).trans (kp_set _ _ _ _) (fun k hk _ => hk)
  have hd1 : (w.setCell ⟨p, 0, none⟩ (.int .i64 (clp zx))).cell? ⟨p, 1, none⟩ = some (.int .i64 y) := (Lib.cell_of_heap (heap_setCell_same _ p 0 _ _ _ h.obj) 1).trans rfl
  have hd2 : (w.setCell ⟨p, 0, none⟩ (.int .i64 (clp zx))).frozen? ⟨p, 1, none⟩ = false := Lib.frozen_of_heap (heap_setCell_same _ p 0 _ _ _ h.obj) 1
  rw [← hW] at hS2
  have CP := hid (spoint_any hS2 a n c hs (hr.kp hkW hX))
  have HKW := hid hkW
  have HSZ : Hid (W.heap.size = w.heap.size) := by rw [Hid, hW]; simp
  clear h hr hX hS2 hkW
  generalize atL hs (clp zx) (clp zy) = A at CP ⊢
  obtain ⟨s, ix, iy⟩ := A
  have CX := hid (swithin_any zx)
  have CY := hid (swithin_any zy)
  generalize clp zx = cx at *
  generalize clp zy = cy at *
  go_enter Try.func21, Try.ntmps21
  go_wp2_with fail
  refine (CX.out _).mono ?_
  rintro e w1 ⟨rfl, rfl⟩
  clear CX
  go_wp2_with fail
  refine (CY.out _).mono ?_
  rintro e w2 ⟨rfl, rfl⟩
  clear CY
  go_wp2_with fail
  rw [← hW]
  refine CP.out.mono ?_
  rintro e w3 ⟨g, b, m, d, hP⟩
  obtain ⟨rfl, hk, hse, hkp⟩ := hP
  have CC := hid (collect_any _ _ (movN P s ix iy) _ (movN_size _ _ _ _) (movN_len _ _ _ _) egE (each_hands g b m d (ntR P s ix iy)) w3 hk.all)
  have HSE := hid hse
  have HKP := hid (HKW.out.trans hkp (fun k hk _ => hk))
  have HSZ3 := hid hkp.size
  clear hk hse hkp CP hW hd1 hd2
  go_wp2_with fail
  refine CC.out.mono ?_
  rintro e w4 ⟨v, rfl, ho⟩
  have HO := hid ho
  obtain ⟨va, vc, rfl⟩ := own_shape ho.own
  clear ho
  go_wp2
  go_ret
  exact ⟨_, rfl, ownsRow_low HO.out.own (by have := HSZ3.out; rw [HSZ.out] at this; exact this), HO.out.size, HKP.out.trans (kp_of_below HO.out.bel []) (fun k hk => by cases hk), HSE.out.on HO.out.bel⟩

set_option maxRecDepth 100000 in
set_option maxHeartbeats 1000000 in
theorem slook_any {w : World} {p : Nat} {x y P K : Int} (h : Se w p x y P K) (a : Option Addr) (n c : Nat) (hs : List Ht) (hr : RdH w a n c hs) :
    Calls Try.prog 15 #[.pointer (some ⟨p, 0, none⟩), .slice a n c] w fun e w' => ∃ v, e = .returned v ∧ SeR w w' p v (lokN P (atL hs x y).1 (atL hs x y).2.1 (atL hs x y).2.2) x y (atL hs x y).1 K := by
  have CP := hid (spoint_any h a n c hs hr)
  clear h hr
  generalize atL hs x y = A at CP ⊢
  obtain ⟨s, ix, iy⟩ := A
  go_enter Try.func15, Try.ntmps15
  go_wp2_with fail
  refine CP.out.mono ?_
  rintro e w3 ⟨g, b, m, d, hP⟩
  obtain ⟨rfl, hk, hse, hkp⟩ := hP
  have HK := hid hk
  have HSE := hid hse
  have HKP := hid hkp
  clear hk hse hkp CP
  go_wp2_with fail
  refine (still_any _ _ _).mono ?_
  rintro e w4 ⟨rfl, hw4⟩
  have hb4 : RowKit.Below w3.heap.size w3 w4 := by rw [hw4]; exact bel_nw _ _
  have hc4 : w4.cell? ⟨w3.heap.size, 0, none⟩ = some (.func (.func 49) #[] #[.pointer (some ⟨g, 0, none⟩)]) := by rw [hw4]; exact cell_nw _ _ _ rfl
  have CC := hid (collect_any _ _ (lokN P s ix iy) _ (lokN_size _ _ _ _) (lokN_len _ _ _ _) (enters_of Try.func44 (by kernel_rfl) rfl) (still_hands w3.heap.size _ _ (movN P s ix iy) _ (movN_size _ _ _ _) egE (each_hands g b m d (ntR P s ix iy))) w4 (fun W hb => ⟨by rw [hb.cell (World.block_lt_of_cell? w4 _ hc4)]; exact hc4, (HK.out.all w4 hb4).all W hb⟩))
  have HB4 := hid hb4
  clear hb4 hc4 hw4
  go_wp2_with fail
  refine CC.out.mono ?_
  rintro e w5 ⟨v, rfl, ho⟩
  have HO := hid ho
  obtain ⟨va, vc, rfl⟩ := own_shape ho.own
  clear ho
  go_wp2
  go_ret
  have hb5 := Below.on HB4.out HO.out.bel
  exact ⟨_, rfl, ownsRow_low HO.out.own (Nat.le_trans HKP.out.size HB4.out.size), HO.out.size, HKP.out.trans (kp_of_below hb5 []) (fun k hk => by cases hk), HSE.out.on hb5⟩

set_option maxRecDepth 100000 in
set_option maxHeartbeats 1000000 in
theorem skeys_any {w : World} {p : Nat} {x y P K : Int} (h : Se w p x y P K) (s : Int) :
    Calls Try.prog 17 #[.pointer (some ⟨p, 0, none⟩), .int .i64 s] w fun e w' => ∃ v, e = .returned v ∧ SeR w w' p v (lokN K s 0 0) x y P s := by
  obtain ⟨c0, c1, c2, c3⟩ := h.cells
  have f3 := h.fz 3
  have CP := hid (give_any c3 f3 s 0 0)
  have HS := hid (h.set3 s)
  clear h
  go_enter Try.func17, Try.ntmps17
  go_wp2_with fail
  refine CP.out.mono ?_
  rintro e w3 ⟨g, b, m, d, hP⟩
  obtain ⟨rfl, hk, hb⟩ := hP
  have HK := hid hk
  have HSE := hid (HS.out.on (by simpa using hb))
  have HKP := hid (below_kp hb)
  clear hk hb CP HS c0 c1 c2 c3 f3
  go_wp2_with fail
  refine (still_any _ _ _).mono ?_
  rintro e w4 ⟨rfl, hw4⟩
  have hb4 : RowKit.Below w3.heap.size w3 w4 := by rw [hw4]; exact bel_nw _ _
  have hc4 : w4.cell? ⟨w3.heap.size, 0, none⟩ = some (.func (.func 49) #[] #[.pointer (some ⟨g, 0, none⟩)]) := by rw [hw4]; exact cell_nw _ _ _ rfl
  have CC := hid (collect_any _ _ (lokN K s 0 0) _ (lokN_size _ _ _ _) (lokN_len _ _ _ _) (enters_of Try.func44 (by kernel_rfl) rfl) (still_hands w3.heap.size _ _ (movN K s 0 0) _ (movN_size _ _ _ _) egE (each_hands g b m d (ntR K s 0 0))) w4 (fun W hb => ⟨by rw [hb.cell (World.block_lt_of_cell? w4 _ hc4)]; exact hc4, (HK.out.all w4 hb4).all W hb⟩))
  have HB4 := hid hb4
  clear hb4 hc4 hw4
  go_wp2_with fail
  refine CC.out.mono ?_
  rintro e w5 ⟨v, rfl, ho⟩
  have HO := hid ho
  obtain ⟨va, vc, rfl⟩ := own_shape ho.own
  clear ho
  go_wp2
  go_ret
  have hb5 := Below.on HB4.out HO.out.bel
  exact ⟨_, rfl, ownsRow_low HO.out.own (Nat.le_trans HKP.out.size HB4.out.size), HO.out.size, HKP.out.trans (kp_of_below hb5 []) (fun k hk => by cases hk), HSE.out.on hb5⟩
end Go.Proofs.Ytegmolmjoiklpaa
