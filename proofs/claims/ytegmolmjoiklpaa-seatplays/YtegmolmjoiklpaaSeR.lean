/- The document's seat: Look, Move; notes held against one another. -/
import Derived.Test.YtegmolmjoiklpaaSeQ
namespace Go.Proofs.Ytegmolmjoiklpaa
open Go Go.RowKit Go.Shelf

/-- What Look tells, with motions or without. -/
def lkN (mo : Bool) (P s x y : Int) : List (List Int) := if mo = true then movN P s x y else lokN P s x y
theorem lkN_other (mo : Bool) {P s : Int} (h : P ≠ s) (x y : Int) : lkN mo P s x y = chgN P s x y := by
  unfold lkN
  split
  · exact movN_other h x y
  · exact lokN_other h x y
theorem lkN_same (mo : Bool) (s x y : Int) : lkN mo s s x y = if s = 0 then [] else if mo = true then [[3, s, x, y]] else [] := by
  unfold lkN
  cases mo
  · rw [if_neg (by decide), lokN_same]
    split <;> simp
  · rw [if_pos rfl, movN_same]
    split <;> simp
theorem clp_doc (z : Int) : min (max z (-16777216)) 16777216 = clp z := by unfold clp; omega

theorem DeR.one {w : World} {p : Nat} {x y P K z0 z1 z2 z3 : Int} {T : Nat} (h : De w p x y P K) : DeR w (w.alloc (.cells #[.int .i64 z0, .int .i64 z1, .int .i64 z2, .int .i64 z3] T)) p (.slice (some ⟨w.heap.size, 0, none⟩) 1 1) [[z0, z1, z2, z3]] x y P K :=
  ⟨⟨_, _, rfl, rdm_one w z0 z1 z2 z3 T, fun q hq => by cases hq; exact Nat.le_refl _⟩, kp_of_below (bel_nw w _) _, h.on (bel_nw w _)⟩
theorem DeR.base {w u w' : World} {p : Nat} {v : Value} {l : List (List Int)} {x y P K : Int} (h : DeR u w' p v l x y P K) (hb : Kp [p] w u) : DeR w w' p v l x y P K := by
  obtain ⟨⟨a, c, e, hr, hq⟩, hk, hd⟩ := h
  exact ⟨⟨a, c, e, hr, fun q hx => Nat.le_trans hb.size (hq q hx)⟩, hb.trans hk (fun k hk _ => hk), hd⟩
set_option maxRecDepth 100000 in
set_option maxHeartbeats 1000000 in
theorem rslook_any {w : World} {p : Nat} {x y P K : Int} (h : De w p x y P K) (mo : Bool) (a : Option Addr) (n c : Nat) (hs : List Ht) (hr : RdH w a n c hs) :
    Calls Try.prog 16 #[.pointer (some ⟨p, 0, none⟩), .slice a n c, .bool mo] w fun e w' => ∃ v, e = .returned v ∧ DeR w w' p v (lkN mo P (atL hs x y).1 (atL hs x y).2.1 (atL hs x y).2.2) x y (atL hs x y).1 K := by
  have hx := h.hx
  have hy := h.hy
  have HS := hid h
  have HR := hid hr
  have hlp := h.lt
  have CA := hid (fun u hu => rsat_any a n c hs x y (by omega) (by omega) u (HR.out.on hu))
  clear h hr
  generalize atL hs x y = A at CA ⊢
  obtain ⟨s, ix, iy⟩ := A
  go_enter Try.func16, Try.ntmps16
  go_wp2
  have hb0 : RowKit.Below w.heap.size w w.drew := (Below.refl _ _).drew
  refine wp_region_held_drew (S := fun u => De u p x y P K) (by kernel_rfl) ?hh (fun hHeld => ?_)
  case hh => exact (HS.out.on hb0)
  refine wpAnyH_take (i := 0) (v := ?_) rfl (by kernel_rfl) (by kernel_rfl) (by kernel_rfl) (fun _ _ _ h => h) (Or.inl ⟨by kernel_rfl, ?hy0⟩) (by assumption) ?_
  case hy0 => (intro w hSw; (try dsimp only at hSw); obtain ⟨c0, c1, c2, c3⟩ := hSw.cells; go_simp; try with_reducible rfl)
  try simp only [Act.put, List.getElem_toArray, List.getElem_cons_zero, List.setIfInBounds_toArray, List.set_cons_zero, List.set_cons_succ]
  refine wpAnyH_take (i := 1) (v := ?_) rfl (by kernel_rfl) (by kernel_rfl) (by kernel_rfl) (fun _ _ _ h => h) (Or.inl ⟨by kernel_rfl, ?hy1⟩) (by assumption) ?_
  case hy1 => (intro w hSw; (try dsimp only at hSw); obtain ⟨c0, c1, c2, c3⟩ := hSw.cells; go_simp; try with_reducible rfl)
  try simp only [Act.put, List.getElem_toArray, List.getElem_cons_zero, List.getElem_cons_succ, List.setIfInBounds_toArray, List.set_cons_zero, List.set_cons_succ]
  refine wpAnyH_take (i := 2) (v := ?_) rfl (by kernel_rfl) (by kernel_rfl) (by kernel_rfl) (fun _ _ _ h => h) (Or.inl ⟨by kernel_rfl, ?hy2⟩) (by assumption) ?_
  case hy2 => (intro w hSw; (try dsimp only at hSw); obtain ⟨c0, c1, c2, c3⟩ := hSw.cells; go_simp; try with_reducible rfl)
  try simp only [Act.put, List.getElem_toArray, List.getElem_cons_zero, List.getElem_cons_succ, List.setIfInBounds_toArray, List.set_cons_zero, List.set_cons_succ]
  refine wpAnyH_take (i := 3) (v := ?_) rfl (by kernel_rfl) (by kernel_rfl) (by kernel_rfl) (fun _ _ _ h => h) (Or.inl ⟨by kernel_rfl, ?hy3⟩) (by assumption) ?_
  case hy3 => (intro w hSw; (try dsimp only at hSw); obtain ⟨c0, c1, c2, c3⟩ := hSw.cells; go_simp; try with_reducible rfl)
  try simp only [Act.put, List.getElem_toArray, List.getElem_cons_zero, List.getElem_cons_succ, List.setIfInBounds_toArray, List.set_cons_zero, List.set_cons_succ]
  refine wpAnyH_take (i := 4) (v := ?_) rfl (by kernel_rfl) (by kernel_rfl) (by kernel_rfl) (fun _ _ _ h => h) (Or.inl ⟨by kernel_rfl, ?hy4⟩) (by assumption) ?_
  case hy4 => (intro w hSw; (try dsimp only at hSw); obtain ⟨c0, c1, c2, c3⟩ := hSw.cells; go_simp; try with_reducible rfl)
  try simp only [Act.put, List.getElem_toArray, List.getElem_cons_zero, List.getElem_cons_succ, List.setIfInBounds_toArray, List.set_cons_zero, List.set_cons_succ]
  refine wpAnyH_take (i := 5) (v := ?_) rfl (by kernel_rfl) (by kernel_rfl) (by kernel_rfl) (fun _ _ _ h => h) (Or.inl ⟨by kernel_rfl, ?hy5⟩) (by assumption) ?_
  case hy5 => (intro w hSw; (try dsimp only at hSw); obtain ⟨c0, c1, c2, c3⟩ := hSw.cells; go_simp; try with_reducible rfl)
  try simp only [Act.put, List.getElem_toArray, List.getElem_cons_zero, List.getElem_cons_succ, List.setIfInBounds_toArray, List.set_cons_zero, List.set_cons_succ]
  refine wpAnyH_take (i := 6) (v := ?_) rfl (by kernel_rfl) (by kernel_rfl) (by kernel_rfl) (fun _ _ _ h => h) (Or.inl ⟨by kernel_rfl, ?hy6⟩) (by assumption) ?_
  case hy6 => (intro w hSw; (try dsimp only at hSw); obtain ⟨c0, c1, c2, c3⟩ := hSw.cells; go_simp; try with_reducible rfl)
  try simp only [Act.put, List.getElem_toArray, List.getElem_cons_zero, List.getElem_cons_succ, List.setIfInBounds_toArray, List.set_cons_zero, List.set_cons_succ]
  refine wpAnyH_take (i := 7) (v := ?_) rfl (by kernel_rfl) (by kernel_rfl) (by kernel_rfl) (fun _ _ _ h => h) (Or.inl ⟨by kernel_rfl, ?hy7⟩) (by assumption) ?_
  case hy7 => (intro w hSw; (try dsimp only at hSw); obtain ⟨c0, c1, c2, c3⟩ := hSw.cells; go_simp; try with_reducible rfl)
  try simp only [Act.put, List.getElem_toArray, List.getElem_cons_zero, List.getElem_cons_succ, List.setIfInBounds_toArray, List.set_cons_zero, List.set_cons_succ]
  refine wpAnyH_take (i := 8) (v := ?_) rfl (by kernel_rfl) (by kernel_rfl) (by kernel_rfl) (fun _ _ _ h => h) (Or.inl ⟨by kernel_rfl, ?hy8⟩) (by assumption) ?_
  case hy8 => (intro w hSw; (try dsimp only at hSw); obtain ⟨c0, c1, c2, c3⟩ := hSw.cells; go_simp; try with_reducible rfl)
  try simp only [Act.put, List.getElem_toArray, List.getElem_cons_zero, List.getElem_cons_succ, List.setIfInBounds_toArray, List.set_cons_zero, List.set_cons_succ]
  refine wpAnyH_ready (rs := [9]) (by kernel_rfl) (by simp) ?_
  refine AllReadyH.cons rfl (fun K hK => ?_) AllReadyH.nil
  go_simp
  go_wp2_with fail
  refine (CA.out _ hb0).mono ?_
  rintro e u2 ⟨rfl, hb2⟩
  have hs2 := hHeld.on hb2
  refine hK.out _ _ hs2 (fun _ => ?_)
  clear hK K hHeld
  have hHeld := hs2
  clear hs2
  refine wpAnyH_take (i := 10) (v := ?_) rfl (by kernel_rfl) (by kernel_rfl) (by kernel_rfl) (fun _ _ _ h => h) (Or.inl ⟨by kernel_rfl, ?hy10⟩) (by assumption) ?_
  case hy10 => (intro w hSw; (try dsimp only at hSw); obtain ⟨c0, c1, c2, c3⟩ := hSw.cells; go_simp; try with_reducible rfl)
  try simp only [Act.put, List.getElem_toArray, List.getElem_cons_zero, List.getElem_cons_succ, List.setIfInBounds_toArray, List.set_cons_zero, List.set_cons_succ]
  refine wpAnyH_take (i := 11) (v := ?_) rfl (by kernel_rfl) (by kernel_rfl) (by kernel_rfl) (fun _ _ _ h => h) (Or.inl ⟨by kernel_rfl, ?hy11⟩) (by assumption) ?_
  case hy11 => (intro w hSw; (try dsimp only at hSw); obtain ⟨c0, c1, c2, c3⟩ := hSw.cells; go_simp; try with_reducible rfl)
  try simp only [Act.put, List.getElem_toArray, List.getElem_cons_zero, List.getElem_cons_succ, List.setIfInBounds_toArray, List.set_cons_zero, List.set_cons_succ]
  refine wpAnyH_take (i := 12) (v := ?_) rfl (by kernel_rfl) (by kernel_rfl) (by kernel_rfl) (fun _ _ _ h => h) (Or.inl ⟨by kernel_rfl, ?hy12⟩) (by assumption) ?_
  case hy12 => (intro w hSw; (try dsimp only at hSw); obtain ⟨c0, c1, c2, c3⟩ := hSw.cells; go_simp; try with_reducible rfl)
  try simp only [Act.put, List.getElem_toArray, List.getElem_cons_zero, List.getElem_cons_succ, List.setIfInBounds_toArray, List.set_cons_zero, List.set_cons_succ]
  refine wpAnyH_take (i := 13) (v := ?_) rfl (by kernel_rfl) (by kernel_rfl) (by kernel_rfl) (fun _ _ _ h => h) (Or.inl ⟨by kernel_rfl, ?hy13⟩) (by assumption) ?_
  case hy13 => (intro w hSw; (try dsimp only at hSw); obtain ⟨c0, c1, c2, c3⟩ := hSw.cells; go_simp; try with_reducible rfl)
  try simp only [Act.put, List.getElem_toArray, List.getElem_cons_zero, List.getElem_cons_succ, List.setIfInBounds_toArray, List.set_cons_zero, List.set_cons_succ]
  refine wpAnyH_take (i := 14) (v := ?_) rfl (by kernel_rfl) (by kernel_rfl) (by kernel_rfl) (fun _ _ _ h => h) (Or.inl ⟨by kernel_rfl, ?hy14⟩) (by assumption) ?_
  case hy14 => (intro w hSw; (try dsimp only at hSw); obtain ⟨c0, c1, c2, c3⟩ := hSw.cells; go_simp; try with_reducible rfl)
  try simp only [Act.put, List.getElem_toArray, List.getElem_cons_zero, List.getElem_cons_succ, List.setIfInBounds_toArray, List.set_cons_zero, List.set_cons_succ]
  refine wpAnyH_take (i := 15) (v := ?_) rfl (by kernel_rfl) (by kernel_rfl) (by kernel_rfl) (fun _ _ _ h => h) (Or.inl ⟨by kernel_rfl, ?hy15⟩) (by assumption) ?_
  case hy15 => (intro w hSw; (try dsimp only at hSw); obtain ⟨c0, c1, c2, c3⟩ := hSw.cells; go_simp; try with_reducible rfl)
  try simp only [Act.put, List.getElem_toArray, List.getElem_cons_zero, List.getElem_cons_succ, List.setIfInBounds_toArray, List.set_cons_zero, List.set_cons_succ]
  refine wpAnyH_take (i := 16) (v := ?_) rfl (by kernel_rfl) (by kernel_rfl) (by kernel_rfl) (fun _ _ _ h => h) (Or.inl ⟨by kernel_rfl, ?hy16⟩) (by assumption) ?_
  case hy16 => (intro w hSw; (try dsimp only at hSw); obtain ⟨c0, c1, c2, c3⟩ := hSw.cells; go_simp; try with_reducible rfl)
  try simp only [Act.put, List.getElem_toArray, List.getElem_cons_zero, List.getElem_cons_succ, List.setIfInBounds_toArray, List.set_cons_zero, List.set_cons_succ]
  refine wpAnyH_done (by kernel_rfl) ?_ _
  have hb3 := Below.on hb0 hb2
  have HH := hid hHeld
  obtain ⟨c0, c1, c2, c3⟩ := hHeld.cells
  have HB3 := hid (kp_of_below hb3 [p])
  have HSZ := hid (hb3.size)
  clear hHeld hb3 hb2 CA HR
  by_cases hP : s = P
  · have e1 : (s != P) = false := by simpa using hP
    subst hP
    have HL := hid (lkN_same mo s ix iy)
    by_cases h0 : s = 0
    · have e2 : (s != 0) = false := by simpa using h0
      have HL2 : Hid (lkN mo s s ix iy = []) := by rw [Hid, HL.out, if_pos h0]
      clear h0
      go_wp2
      go_ret
      rw [HL2.out]
      exact ⟨_, rfl, (DeR.nope HH.out).base HB3.out⟩
    · have e2 : (s != 0) = true := by simpa using h0
      cases mo
      · have HL2 : Hid (lkN false s s ix iy = []) := by rw [Hid, HL.out, if_neg h0]; rfl
        clear h0
        go_wp2
        go_ret
        rw [HL2.out]
        exact ⟨_, rfl, (DeR.nope HH.out).base HB3.out⟩
      · have HL2 : Hid (lkN true s s ix iy = [[3, s, ix, iy]]) := by rw [Hid, HL.out, if_neg h0]; rfl
        clear h0
        go_wp2
        go_ret
        rw [HL2.out]
        exact ⟨_, rfl, (DeR.one HH.out).base HB3.out⟩
  · have e1 : (s != P) = true := by simpa using hP
    have HL := hid (lkN_other mo (Ne.symm hP) ix iy)
    have CC := hid (rchange_any P s ix iy u2)
    have hl2 := HH.out.lt
    clear hP
    go_wp2_with fail
    refine CC.out.mono ?_
    rintro e w1 ⟨v, rfl, ho⟩
    have hd1 := HH.out.on ho.bel
    have HO := hid ((ho.der (hd1.set2 s) hl2).base HB3.out)
    clear c0 c1 c2 c3
    obtain ⟨d0, d1, d2, d3⟩ := hd1.cells
    have f3 := hd1.fz 2
    have hl1 := hd1.lt
    obtain ⟨va, vc, rfl⟩ := own_shape ho.own
    clear ho CC hd1
    go_wp2
    go_ret
    rw [HL.out]
    exact ⟨_, rfl, HO.out⟩

set_option maxRecDepth 100000 in
set_option maxHeartbeats 1000000 in
theorem rsmove_any {w : World} {p : Nat} {x y P K : Int} (h : De w p x y P K) (zx zy : Int) (a : Option Addr) (n c : Nat) (hs : List Ht) (hr : RdH w a n c hs) (hX : Apt [p] a n hs) :
    Calls Try.prog 22 #[.pointer (some ⟨p, 0, none⟩), .int .i64 zx, .int .i64 zy, .slice a n c] w fun e w' => ∃ v, e = .returned v ∧ DeR w w' p v (movN P (atL hs (clp zx) (clp zy)).1 (atL hs (clp zx) (clp zy)).2.1 (atL hs (clp zx) (clp zy)).2.2) (clp zx) (clp zy) (atL hs (clp zx) (clp zy)).1 K := by
  obtain ⟨c0, c1, c2, c3⟩ := h.cells
  have f0 := h.fz 0
  have hlp := h.lt
  have h1 := h.set0 (clp_in zx)
  obtain ⟨d0, d1, d2, d3⟩ := h1.cells
  have f1 := h1.fz 1
  have h2 := h1.set1 (clp_in zy)
  obtain ⟨W, hW⟩ : ∃ W, W = (w.setCell ⟨p, 0, none⟩ (.int .i64 (clp zx))).setCell ⟨p, 1, none⟩ (.int .i64 (clp zy)) := ⟨_, rfl⟩
  have hkW : Kp [p] w W := by rw [hW]; exact (kp_set _ _ _ _).trans (kp_set _ _ _ _) (fun k hk _ => hk)
  rw [← hW] at h2
  have CP := hid (rslook_any h2 true a n c hs (hr.kp hkW hX))
  rw [show ∀ P s x y, lkN true P s x y = movN P s x y from fun _ _ _ _ => rfl] at CP
  have HKW := hid hkW
  have HM1 := hid (clp_doc zx)
  have HM2 := hid (clp_doc zy)
  clear h h1 h2 hr hX hkW
  generalize atL hs (clp zx) (clp zy) = A at CP ⊢
  generalize clp zx = cx at *
  generalize clp zy = cy at *
  go_enter Try.func22, Try.ntmps22
  have m1 := HM1.out
  have m2 := HM2.out
  go_wp2_with fail
  -- HERE
  rw [← hW]
  refine CP.out.mono ?_
  rintro e w3 ⟨v, rfl, hR⟩
  have HR := hid (hR.base HKW.out)
  obtain ⟨va, vc, rfl, _⟩ := hR.rd
  clear hR CP hW
  go_wp2
  go_ret
  exact ⟨_, rfl, HR.out⟩

set_option maxRecDepth 100000 in
set_option maxHeartbeats 1000000 in
/-- Notes that are the same. -/
theorem ssame_any (a b : Option Addr) (n c d : Nat) (l : List (List Int)) (w : World) (h : RdM 4 w a n c l) (h' : RdM 4 w b n d l) :
    Calls Try.prog 14 #[.slice a n c, .slice b n d] w fun e w' => e = .returned (.bool true) ∧ ∃ q, w' = w.drewN q := by
  have hs := h.small
  have H := hid h
  have H' := hid h'
  clear h h'
  go_enter Try.func14, Try.ntmps14
  go_wp2
  go_loopw [5] (fun i wr => ∃ j : Nat, i = .int .i64 j ∧ j ≤ n ∧ ∃ q, wr = w.drewN q) (fun i _ => n - (numOf i).toNat)
  case atStart => exact ⟨0, rfl, by omega, 0, rfl⟩
  case round =>
    obtain ⟨j, rfl, hj, q, rfl⟩ := hrel
    by_cases hgo : j < n
    · have e1 : decide ((j : Int) < n) = true := decide_eq_true (by omega)
      have e2 : (j : Int) < n := by omega
      obtain ⟨b1, o1, z0, z1, z2, z3, rfl, _, hr1, d0, d1, d2, d3⟩ := H.out.el4 hgo
      obtain ⟨b2, o2, y0, y1, y2, y3, rfl, _, hr2, f0, f1, f2, f3⟩ := H'.out.el4 hgo
      rw [hr1] at hr2
      cases hr2
      have e3 : (z0 != z0) = false := by simp
      have e4 : (z1 != z1) = false := by simp
      have e5 : (z2 != z2) = false := by simp
      have e6 : (z3 != z3) = false := by simp
      clear hr1
      go_wp2
      go_quiet (fail)
      go_wp2
      go_roundw
      case rel => exact ⟨j + 1, by go_num, by omega, _, rfl⟩
      case measure => simp [numOf]; omega
    · have e1 : decide ((j : Int) < n) = false := decide_eq_false (by omega)
      go_wp2
      go_ret
      exact ⟨rfl, _, rfl⟩
end Go.Proofs.Ytegmolmjoiklpaa
