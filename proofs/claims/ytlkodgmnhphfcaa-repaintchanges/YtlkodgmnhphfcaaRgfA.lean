/- The document's Has, in, Same, add; SameRects. -/
import Derived.Test.YtlkodgmnhphfcaaRgnU
namespace Go.Proofs.Ytlkodgmnhphfcaa
open Go Go.RowKit

/-- The same rectangles. -/
def eqr : List Rc → List Rc → Bool
  | [], [] => true
  | x :: l, y :: m => rceq x y && eqr l m
  | _, _ => false
theorem eqr_cons (x y : Rc) (l m : List Rc) : eqr (x :: l) (y :: m) = (rceq x y && eqr l m) := rfl
theorem eqr_iff : ∀ {l m : List Rc}, eqr l m = true ↔ l = m
  | [], [] => by simp [eqr]
  | [], _ :: _ => by simp [eqr]
  | _ :: _, [] => by simp [eqr]
  | x :: l, y :: m => by rw [eqr, Bool.and_eq_true, rceq_iff, eqr_iff, List.cons.injEq]
theorem eqr_len {l m : List Rc} (h : l.length ≠ m.length) : eqr l m = false := by
  rw [← Bool.not_eq_true, eqr_iff]
  intro e
  exact h (by rw [e])
theorem eqr_same (l : List Rc) : eqr l l = true := eqr_iff.2 rfl

set_option maxRecDepth 100000 in
set_option maxHeartbeats 1000000 in
theorem rsame_any (a a' : Option Addr) (n c n' c' : Nat) (l m : List Rc) (w : World) (h : RdC w a n c l) (h' : RdC w a' n' c' m) :
    Calls Try.prog 23 #[.slice a n c, .slice a' n' c'] w fun e w' => e = .returned (.bool (eqr l m)) ∧ ∃ q, w' = w.drewN q := by
  have hl := h.len
  have hl' := h'.len
  have hn63 := h.small.1
  have hn63' := h'.small.1
  have hg := neqR_guard
  have hne := neqR
  by_cases hnn : n = n'
  · subst hnn
    have H := hid h
    have H' := hid h'
    have HL := hid hl
    have HL' := hid hl'
    clear h h' hl hl'
    go_enter Try.func23, Try.ntmps23
    go_wp2
    go_loopw [5] (fun i wr => ∃ j : Nat, i = .int .i64 j ∧ j ≤ n ∧ eqr (l.drop j) (m.drop j) = eqr l m ∧ ∃ q, wr = w.drewN q) (fun i _ => n - (numOf i).toNat)
    case atStart => exact ⟨0, rfl, by omega, rfl, 0, rfl⟩
    case round =>
      obtain ⟨j, rfl, hj, hq, q, rfl⟩ := hrel
      by_cases hgo : j < n
      · have e1 : decide ((j : Int) < n) = true := decide_eq_true (by omega)
        have e2 : (j : Int) < n := by omega
        obtain ⟨b, off, x, rfl, _, hx, _, hex⟩ := H.out.el hgo
        obtain ⟨b', off', y, rfl, _, hy, _, hey⟩ := H'.out.el hgo
        obtain ⟨_, c0, c1, c2, c3⟩ := hex
        obtain ⟨_, d0, d1, d2, d3⟩ := hey
        have HD : Hid (eqr l m = (rceq x y && eqr (l.drop (j + 1)) (m.drop (j + 1)))) := by
          rw [Hid, ← hq, drop_at hx, drop_at hy, eqr_cons]
        clear hx hy hq
        have hn0 := hne x y
        cases hs : rceq x y
        · rw [hs] at hn0
          have HE : Hid (eqr l m = false) := by rw [Hid, HD.out, hs]; rfl
          go_wp2
          go_quiet (fail)
          go_wp2
          go_ret
          rw [HE.out, World.drewN_drewN]
          exact ⟨rfl, _, rfl⟩
        · rw [hs] at hn0
          have HE : Hid (eqr (l.drop (j + 1)) (m.drop (j + 1)) = eqr l m) := by rw [Hid, HD.out, hs]; rfl
          go_wp2
          go_quiet (fail)
          go_wp2
          go_roundw
          case rel => exact ⟨j + 1, by go_num, by omega, HE.out, _, rfl⟩
          case measure => simp [numOf]; omega
      · have e1 : decide ((j : Int) < n) = false := decide_eq_false (by omega)
        have HE : Hid (eqr l m = true) := by
          rw [Hid, ← hq, List.drop_eq_nil_of_le (by rw [HL.out]; omega), List.drop_eq_nil_of_le (by rw [HL'.out]; omega)]
          rfl
        clear hq
        go_wp2
        go_ret
        rw [HE.out]
        exact ⟨rfl, _, rfl⟩
  · have HE : Hid (eqr l m = false) := eqr_len (by omega)
    have e1 : ((n : Int) == n') = false := by simp; omega
    clear h h' hl hl'
    go_enter Try.func23, Try.ntmps23
    go_wp2
    go_ret
    rw [HE.out]
    exact ⟨rfl, 0, rfl⟩

set_option maxRecDepth 100000 in
set_option maxHeartbeats 1000000 in
theorem samerects_any (a a' : Option Addr) (n c n' c' : Nat) (l m : List Rc) (w : World) (h : RdC w a n c l) (h' : RdC w a' n' c' m) :
    Calls Try.prog 8 #[.slice a n c, .slice a' n' c'] w fun e w' => e = .returned (.bool (eqr l m)) ∧ ∃ q, w' = w.drewN q := by
  have hl := h.len
  have hl' := h'.len
  have hn63 := h.small.1
  have hn63' := h'.small.1
  have hg := neqR_guard
  have hne := neqR
  by_cases hnn : n = n'
  · subst hnn
    have H := hid h
    have H' := hid h'
    have HL := hid hl
    have HL' := hid hl'
    clear h h' hl hl'
    go_enter Try.func8, Try.ntmps8
    go_wp2
    go_loopw [5] (fun i wr => ∃ j : Nat, i = .int .i64 j ∧ j ≤ n ∧ eqr (l.drop j) (m.drop j) = eqr l m ∧ ∃ q, wr = w.drewN q) (fun i _ => n - (numOf i).toNat)
    case atStart => exact ⟨0, rfl, by omega, rfl, 0, rfl⟩
    case round =>
      obtain ⟨j, rfl, hj, hq, q, rfl⟩ := hrel
      by_cases hgo : j < n
      · have e1 : decide ((j : Int) < n) = true := decide_eq_true (by omega)
        have e2 : (j : Int) < n := by omega
        obtain ⟨b, off, x, rfl, _, hx, _, hex⟩ := H.out.el hgo
        obtain ⟨b', off', y, rfl, _, hy, _, hey⟩ := H'.out.el hgo
        obtain ⟨_, c0, c1, c2, c3⟩ := hex
        obtain ⟨_, d0, d1, d2, d3⟩ := hey
        have HD : Hid (eqr l m = (rceq x y && eqr (l.drop (j + 1)) (m.drop (j + 1)))) := by
          rw [Hid, ← hq, drop_at hx, drop_at hy, eqr_cons]
        clear hx hy hq
        have hn0 := hne x y
        cases hs : rceq x y
        · rw [hs] at hn0
          have HE : Hid (eqr l m = false) := by rw [Hid, HD.out, hs]; rfl
          go_wp2
          go_quiet (fail)
          go_wp2
          go_ret
          rw [HE.out, World.drewN_drewN]
          exact ⟨rfl, _, rfl⟩
        · rw [hs] at hn0
          have HE : Hid (eqr (l.drop (j + 1)) (m.drop (j + 1)) = eqr l m) := by rw [Hid, HD.out, hs]; rfl
          go_wp2
          go_quiet (fail)
          go_wp2
          go_roundw
          case rel => exact ⟨j + 1, by go_num, by omega, HE.out, _, rfl⟩
          case measure => simp [numOf]; omega
      · have e1 : decide ((j : Int) < n) = false := decide_eq_false (by omega)
        have HE : Hid (eqr l m = true) := by
          rw [Hid, ← hq, List.drop_eq_nil_of_le (by rw [HL.out]; omega), List.drop_eq_nil_of_le (by rw [HL'.out]; omega)]
          rfl
        clear hq
        go_wp2
        go_ret
        rw [HE.out]
        exact ⟨rfl, _, rfl⟩
  · have HE : Hid (eqr l m = false) := eqr_len (by omega)
    have e1 : ((n : Int) == n') = false := by simp; omega
    clear h h' hl hl'
    go_enter Try.func8, Try.ntmps8
    go_wp2
    go_ret
    rw [HE.out]
    exact ⟨rfl, 0, rfl⟩

set_option maxRecDepth 100000 in
set_option maxHeartbeats 1000000 in
theorem rpt_any (a : Option Addr) (n c : Nat) (l : List Rc) (x y : Int) (hx : -9223372036854775808 ≤ x ∧ x ≤ 9223372036854775807) (hy : -9223372036854775808 ≤ y ∧ y ≤ 9223372036854775807) (w : World) (h : RdC w a n c l) :
    Calls Try.prog 59 #[.slice a n c, .int .i64 x, .int .i64 y] w fun e w' => e = .returned (.bool (pt l x y)) ∧ Below w.heap.size w w' := by
  have HL := hid h.len
  have hs := h.small
  have H := hid h
  clear h
  go_enter Try.func59, Try.ntmps59
  go_wp2
  go_loopw [7] (fun i wr => ∃ j : Nat, i = .int .i64 j ∧ j ≤ n ∧ pt (l.drop j) x y = pt l x y ∧ RowKit.Below w.heap.size w wr) (fun i _ => n - (numOf i).toNat)
  case atStart => exact ⟨0, rfl, by omega, rfl, Below.refl _ _⟩
  case round =>
    obtain ⟨j, rfl, hj, hq, hb⟩ := hrel
    have HB := hid hb
    clear hb
    by_cases hgo : j < n
    · have e1 : decide ((j : Int) < n) = true := decide_eq_true (by omega)
      have e2 : (j : Int) < n := by omega
      obtain ⟨b, off, r, rfl, _, hr, ok, he⟩ := (H.out.on HB.out).el hgo
      obtain ⟨_, c0, c1, c2, c3⟩ := he
      have CH := hid (fun u => rhas_any r ok x y hx hy u)
      have HD : Hid (pt l x y = (has r x y || pt (l.drop (j + 1)) x y)) := by rw [Hid, ← hq, drop_at hr, pt_cons]
      clear hr ok hq
      cases hh : has r x y
      · rw [hh] at CH
        have HE : Hid (pt (l.drop (j + 1)) x y = pt l x y) := by rw [Hid, HD.out, hh]; rfl
        go_wp2_with fail
        refine (CH.out _).mono ?_
        rintro e w2 ⟨rfl, hb2⟩
        have HB2 := hid (Below.on HB.out hb2)
        clear hb2
        go_wp2
        go_roundw
        case rel => exact ⟨j + 1, by go_num, by omega, HE.out, HB2.out⟩
        case measure => simp [numOf]; omega
      · rw [hh] at CH
        have HE : Hid (pt l x y = true) := by rw [Hid, HD.out, hh]; rfl
        go_wp2_with fail
        refine (CH.out _).mono ?_
        rintro e w2 ⟨rfl, hb2⟩
        have HB2 := hid (Below.on HB.out hb2)
        clear hb2
        go_wp2
        go_ret
        rw [HE.out]
        exact ⟨rfl, HB2.out⟩
    · have e1 : decide ((j : Int) < n) = false := decide_eq_false (by omega)
      have HE : Hid (pt l x y = false) := by rw [Hid, ← hq, List.drop_eq_nil_of_le (by rw [HL.out]; omega)]; rfl
      clear hq
      go_wp2
      go_ret
      rw [HE.out]
      exact ⟨rfl, HB.out⟩

/-- The document's ways: 0, 1, 2. -/
def fH (how : Int) : Bool → Bool → Bool := if how = 1 then sub else if how = 2 then and else or
theorem fH_ff (how : Int) : fH how false false = false := by
  unfold fH
  split
  · rfl
  · split <;> rfl

set_option maxRecDepth 100000 in
set_option maxHeartbeats 1000000 in
theorem rin_any (a a' : Option Addr) (n c n' c' : Nat) (l m : List Rc) (x y how : Int) (hx : -9223372036854775808 ≤ x ∧ x ≤ 9223372036854775807) (hy : -9223372036854775808 ≤ y ∧ y ≤ 9223372036854775807) (w : World) (h : RdC w a n c l) (h' : RdC w a' n' c' m) :
    Calls Try.prog 52 #[.slice a n c, .slice a' n' c', .int .i64 x, .int .i64 y, .int .i64 how] w fun e w' => e = .returned (.bool (fH how (pt l x y) (pt m x y))) ∧ Below w.heap.size w w' := by
  have H := hid h
  have H' := hid h'
  have C1 := hid (fun u hu => rpt_any a n c l x y hx hy u hu)
  have C2 := hid (fun u hu => rpt_any a' n' c' m x y hx hy u hu)
  clear h h'
  generalize pt l x y = p at C1 ⊢
  generalize pt m x y = q at C2 ⊢
  go_enter Try.func52, Try.ntmps52
  go_wp2_with fail
  refine (C1.out _ H.out).mono ?_
  rintro e w1 ⟨rfl, hb1⟩
  go_wp2_with fail
  refine (C2.out _ (H'.out.on hb1)).mono ?_
  rintro e w2 ⟨rfl, hb2⟩
  have HB := hid (Below.on hb1 hb2)
  clear hb1 hb2 C1 C2
  cases h1 : (how == 1)
  · cases h2 : (how == 2)
    · have HE : Hid (fH how = or) := by rw [Hid, fH, if_neg (by simpa using h1), if_neg (by simpa using h2)]
      cases p <;> cases q
      all_goals
        go_wp2
        go_ret
        rw [HE.out]
        exact ⟨rfl, HB.out⟩
    · have HE : Hid (fH how = and) := by rw [Hid, fH, if_neg (by simpa using h1), if_pos (by simpa using h2)]
      cases p <;> cases q
      all_goals
        go_wp2
        go_ret
        rw [HE.out]
        exact ⟨rfl, HB.out⟩
  · have HE : Hid (fH how = sub) := by rw [Hid, fH, if_pos (by simpa using h1)]
    cases p <;> cases q
    all_goals
      go_wp2
      go_ret
      rw [HE.out]
      exact ⟨rfl, HB.out⟩

/-- What is still to come of add. -/
def rstA (v : Int) (d : Bool) (l : List Int) : List Int := if d = true then l else addE l v
theorem rstA_lt {v k : Int} {t : List Int} (h : v < k) : rstA v false (k :: t) = v :: k :: t := by rw [rstA, if_neg (by decide), addE, if_pos h]
theorem rstA_eq {v k : Int} {t : List Int} (h : v = k) : rstA v false (k :: t) = k :: t := by rw [rstA, if_neg (by decide), addE, if_neg (by omega), if_pos h]
theorem rstA_gt {v k : Int} {t : List Int} (h : k < v) : rstA v false (k :: t) = k :: rstA v false t := by rw [rstA, if_neg (by decide), addE, if_neg (by omega), if_neg (by omega), rstA, if_neg (by decide)]

set_option maxRecDepth 100000 in
set_option maxHeartbeats 1000000 in
theorem radd_any (a : Option Addr) (n c : Nat) (l : List Int) (v : Int) (w : World) (h : RdJ w a n c l) (hn : n ≤ 1000000) :
    Calls Try.prog 51 #[.slice a n c, .int .i64 v] w fun e w' => ∃ x, e = .returned x ∧ OwJ w w' x (addE l v) := by
  have HL := hid h.len
  have hs := h.small
  have H := hid h
  obtain ⟨i0, hi, hz0, hz1, hz2⟩ := info3 infoI
  clear h
  go_enter Try.func51, Try.ntmps51
  go_wp2
  go_loopw [5, 6, 7] (fun s5 s6 s7 wr => ∃ (j : Nat) (d : Bool) (M : List Int), s7 = .int .i64 j ∧ s6 = .bool d ∧ j ≤ n ∧ M.length ≤ j + d.toNat ∧ M ++ rstA v d (l.drop j) = addE l v ∧ OwJ w wr s5 M) (fun _ _ s7 _ => n - (numOf s7).toNat)
  case atStart => exact ⟨0, false, [], rfl, rfl, by omega, by simp, rfl, World.ownsRow_nil _ _ _ _, Below.refl _ _⟩
  case round =>
    obtain ⟨j, d, M, rfl, rfl, hj, hM, hq, hO⟩ := hrel
    have HQ := hid hq
    have HO := hid hO
    have hd1 : d.toNat ≤ 1 := Bool.toNat_le d
    clear hq hO
    by_cases hgo : j < n
    · have e1 : decide ((j : Int) < n) = true := decide_eq_true (by omega)
      have e2 : (j : Int) < n := by omega
      obtain ⟨b, off, k, rfl, hbl, hk, c0⟩ := (H.out.on HO.out.bel).el hgo
      have HD := hid (drop_at hk)
      clear hk
      have HC : Hid (∀ u, RowKit.Below w.heap.size w u → u.cell? ⟨b, off + j, none⟩ = some (.int .i64 k)) := fun u hu => by
        obtain ⟨b', off', k', e, _, hk', c'⟩ := (H.out.on hu).el hgo
        cases e
        have := HD.out
        rw [drop_at hk', List.cons.injEq] at this
        rw [← this.1]
        exact c'
      cases d
      · rcases Int.lt_trichotomy v k with hvk | hvk | hvk
        · have e3 : decide (v ≤ k) = true := decide_eq_true (by omega)
          have e4 : decide (v < k) = true := decide_eq_true hvk
          have HN : Hid ((M ++ [v]) ++ [k] ++ rstA v true (l.drop (j + 1)) = addE l v) := by
            have := HQ.out
            rw [HD.out, rstA_lt hvk] at this
            rw [Hid, ← this]
            simp [rstA]
          have HOW := hid (HO.out.own.alloc (.cells #[.int .i64 v] 3))
          have HSR := hid (src1 wr v)
          have HSZ := (HO.out.on (below_new _ (.cells #[.int .i64 v] 3))).size
          go_upto_region 10 with (at_builtin; refine wpList_append_own_src _ rfl (.tmp 30) (.tmp 32) 60 60 rfl w.heap.size 3 i0 (.int .i64 0) 1 8 Try.underlying60 hi hz0 hz1 hz2 rfl _ _ _ rfl HOW.out _ _ _ rfl HSR.out (by simp only [maxLen]; omega) (fitsI (by omega)) HSZ ?_; intro v9 w9 o9 g9; have H3 := hid (HO.out.grown (m := [v]) o9 g9); clear o9 g9 HOW HSR HSZ)
          have c1 := HC.out _ H3.out.bel
          have hM2 : (M ++ [v]).length ≤ j + 2 := by rw [List.length_append, List.length_singleton]; omega
          have HOW := hid (H3.out.own.alloc (.cells #[.int .i64 k] 3))
          have HSR := hid (src1 w9 k)
          have HSZ := (H3.out.on (below_new _ (.cells #[.int .i64 k] 3))).size
          clear HO HC c0
          go_wp2_with (at_builtin; refine wpList_append_own_src _ rfl (.tmp 34) (.tmp 39) 60 60 rfl w.heap.size 3 i0 (.int .i64 0) 1 8 Try.underlying60 hi hz0 hz1 hz2 rfl _ _ _ rfl HOW.out _ _ _ rfl HSR.out (by simp only [maxLen]; omega) (fitsI (by omega)) HSZ ?_; intro v9 w9 o9 g9; have H4 := hid (H3.out.grown (m := [k]) o9 g9); clear o9 g9 HOW HSR HSZ)
          go_wp2
          go_roundw
          case rel => exact ⟨j + 1, true, M ++ [v] ++ [k], by go_num, rfl, by omega, by simp only [List.length_append, List.length_singleton, Bool.toNat_true, Bool.toNat_false] at hM ⊢; omega, HN.out, H4.out⟩
          case measure => simp [numOf]; omega
        · have e3 : decide (v ≤ k) = true := decide_eq_true (by omega)
          have e4 : decide (v < k) = false := decide_eq_false (by omega)
          have HN : Hid (M ++ [k] ++ rstA v true (l.drop (j + 1)) = addE l v) := by
            have := HQ.out
            rw [HD.out, rstA_eq hvk] at this
            rw [Hid, ← this]
            simp [rstA]
          clear HC hvk
          have HOW := hid (HO.out.own.alloc (.cells #[.int .i64 k] 3))
          have HSR := hid (src1 wr k)
          have HSZ := (HO.out.on (below_new _ (.cells #[.int .i64 k] 3))).size
          go_wp2_with (at_builtin; refine wpList_append_own_src _ rfl (.tmp 34) (.tmp 39) 60 60 rfl w.heap.size 3 i0 (.int .i64 0) 1 8 Try.underlying60 hi hz0 hz1 hz2 rfl _ _ _ rfl HOW.out _ _ _ rfl HSR.out (by simp only [maxLen]; omega) (fitsI (by omega)) HSZ ?_; intro v9 w9 o9 g9; have H4 := hid (HO.out.grown (m := [k]) o9 g9); clear o9 g9 HOW HSR HSZ)
          go_wp2
          go_roundw
          case rel => exact ⟨j + 1, true, M ++ [k], by go_num, rfl, by omega, by simp only [List.length_append, List.length_singleton, Bool.toNat_true, Bool.toNat_false] at hM ⊢; omega, HN.out, H4.out⟩
          case measure => simp [numOf]; omega
        · have e3 : decide (v ≤ k) = false := decide_eq_false (by omega)
          have HN : Hid (M ++ [k] ++ rstA v false (l.drop (j + 1)) = addE l v) := by
            have := HQ.out
            rw [HD.out, rstA_gt hvk] at this
            rw [Hid, ← this]
            simp
          clear HC
          have HOW := hid (HO.out.own.alloc (.cells #[.int .i64 k] 3))
          have HSR := hid (src1 wr k)
          have HSZ := (HO.out.on (below_new _ (.cells #[.int .i64 k] 3))).size
          go_wp2_with (at_builtin; refine wpList_append_own_src _ rfl (.tmp 34) (.tmp 39) 60 60 rfl w.heap.size 3 i0 (.int .i64 0) 1 8 Try.underlying60 hi hz0 hz1 hz2 rfl _ _ _ rfl HOW.out _ _ _ rfl HSR.out (by simp only [maxLen]; omega) (fitsI (by omega)) HSZ ?_; intro v9 w9 o9 g9; have H4 := hid (HO.out.grown (m := [k]) o9 g9); clear o9 g9 HOW HSR HSZ)
          go_wp2
          go_roundw
          case rel => exact ⟨j + 1, false, M ++ [k], by go_num, rfl, by omega, by simp only [List.length_append, List.length_singleton, Bool.toNat_false] at hM ⊢; omega, HN.out, H4.out⟩
          case measure => simp [numOf]; omega
      · have HN : Hid (M ++ [k] ++ rstA v true (l.drop (j + 1)) = addE l v) := by
          have := HQ.out
          rw [HD.out] at this
          rw [Hid, ← this]
          simp [rstA]
        clear HC
        have HOW := hid (HO.out.own.alloc (.cells #[.int .i64 k] 3))
        have HSR := hid (src1 wr k)
        have HSZ := (HO.out.on (below_new _ (.cells #[.int .i64 k] 3))).size
        go_wp2_with (at_builtin; refine wpList_append_own_src _ rfl (.tmp 34) (.tmp 39) 60 60 rfl w.heap.size 3 i0 (.int .i64 0) 1 8 Try.underlying60 hi hz0 hz1 hz2 rfl _ _ _ rfl HOW.out _ _ _ rfl HSR.out (by simp only [maxLen]; omega) (fitsI (by omega)) HSZ ?_; intro v9 w9 o9 g9; have H4 := hid (HO.out.grown (m := [k]) o9 g9); clear o9 g9 HOW HSR HSZ)
        go_wp2
        go_roundw
        case rel => exact ⟨j + 1, true, M ++ [k], by go_num, rfl, by omega, by simp only [List.length_append, List.length_singleton, Bool.toNat_true] at hM ⊢; omega, HN.out, H4.out⟩
        case measure => simp [numOf]; omega
    · have e1 : decide ((j : Int) < n) = false := decide_eq_false (by omega)
      cases d
      · have HN : Hid (M ++ [v] = addE l v) := by
          have := HQ.out
          rw [List.drop_eq_nil_of_le (by rw [HL.out]; omega)] at this
          exact this
        have HOW := hid (HO.out.own.alloc (.cells #[.int .i64 v] 3))
        have HSR := hid (src1 wr v)
        have HSZ := (HO.out.on (below_new _ (.cells #[.int .i64 v] 3))).size
        go_wp2_with (at_builtin; refine wpList_append_own_src _ rfl (.tmp 43) (.tmp 45) 60 60 rfl w.heap.size 3 i0 (.int .i64 0) 1 8 Try.underlying60 hi hz0 hz1 hz2 rfl _ _ _ rfl HOW.out _ _ _ rfl HSR.out (by simp only [maxLen]; omega) (fitsI (by omega)) HSZ ?_; intro v9 w9 o9 g9; have H4 := hid (HO.out.grown (m := [v]) o9 g9); clear o9 g9 HOW HSR HSZ)
        go_wp2
        go_ret
        rw [← HN.out]
        exact ⟨_, rfl, H4.out⟩
      · have HN : Hid (M = addE l v) := by
          have := HQ.out
          rw [List.drop_eq_nil_of_le (by rw [HL.out]; omega)] at this
          rw [Hid, ← this]
          simp [rstA]
        go_wp2
        go_ret
        rw [← HN.out]
        exact ⟨_, rfl, HO.out⟩
end Go.Proofs.Ytlkodgmnhphfcaa
