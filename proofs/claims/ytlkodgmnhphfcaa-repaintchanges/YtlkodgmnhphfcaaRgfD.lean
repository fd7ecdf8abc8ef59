/- The document's alike. -/
import Derived.Test.YtlkodgmnhphfcaaRgfC
namespace Go.Proofs.Ytlkodgmnhphfcaa
open Go Go.RowKit

theorem alk_cons (p q : Rc) (l m : List Rc) : alk (p :: l) (q :: m) = (decide (p.y + p.h = q.y) && eqs (p :: l) (q :: m)) := by
  rw [alk, eqs]
  congr 1
  congr 1
  rw [Bool.eq_iff_iff]
  simp

set_option maxRecDepth 100000 in
set_option maxHeartbeats 1000000 in
theorem ralike_any (a a' : Option Addr) (n c n' c' : Nat) (l m : List Rc) (w : World) (h : RdC w a n c l) (h' : RdC w a' n' c' m) (hk : ∀ x ∈ l, Sm x) :
    Calls Try.prog 38 #[.slice a n c, .slice a' n' c'] w fun e w' => e = .returned (.bool (alk l m)) ∧ ∃ q, w' = w.drewN q := by
  have hl := h.len
  have hl' := h'.len
  have hn63 := h.small.1
  have hn63' := h'.small.1
  cases l with
  | nil =>
    obtain rfl : n = 0 := hl.symm
    have HE : Hid (alk [] m = false) := by rw [Hid, alk]; simp
    cases m with
    | nil =>
      obtain rfl : n' = 0 := hl'.symm
      clear h h' hk
      go_enter Try.func38, Try.ntmps38
      go_wp2
      go_quiet (fail)
      go_wp2
      go_ret
      rw [HE.out]
      exact ⟨rfl, _, rfl⟩
    | cons q m =>
      have hn1 : 0 < n' := by rw [← hl']; simp
      have e1 : ((0 : Int) == n') = false := by simp; omega
      have e2 : ((0 : Int) != n') = true := by simp; omega
      have e6 : ¬ (0 : Int) = n' := by omega
      have e7 : (0 != n') = true := by simp; omega
      have e8 : ¬ 0 = n' := by omega
      have e9 : (0 == n') = false := by simp; omega
      clear h h' hk hl'
      go_enter Try.func38, Try.ntmps38
      go_wp2
      go_quiet (fail)
      go_wp2
      go_ret
      rw [HE.out]
      exact ⟨rfl, _, rfl⟩
  | cons p l =>
    have hn0 : 0 < n := by rw [← hl]; simp
    by_cases hnn : n = n'
    · subst hnn
      cases m with
      | nil => simp at hl'; omega
      | cons q m =>
        have e2 : ((n : Int) == 0) = false := by simp; omega
        have e3 : (0 : Int) < n := by omega
        obtain ⟨b, off, rfl, hb, hel⟩ := h.pl hn0
        obtain ⟨b', off', rfl, hb', hel'⟩ := h'.pl hn0
        obtain ⟨_, _, y0, _, h0⟩ := hel 0 p rfl
        obtain ⟨_, _, y1, _, _⟩ := hel' 0 q rfl
        simp only [Nat.zero_mul, Nat.add_zero] at y0 h0 y1
        obtain ⟨sx, sy, sw, sh2⟩ := hk p (by simp)
        have f1 : IntKind.i64.wrap (p.y + p.h) = p.y + p.h := by rw [IntKind.wrap_i64]; omega
        have H := hid h
        have H' := hid h'
        have HL := hid hl
        have HL' := hid hl'
        clear hel hel' h h' hk hl hl'
        cases hq : (p.y + p.h == q.y)
        · have HE : Hid (alk (p :: l) (q :: m) = false) := by rw [Hid, alk_cons, decide_eq_false (by simpa using hq)]; rfl
          go_enter Try.func38, Try.ntmps38
          go_wp2
          go_quiet (fail)
          go_wp2
          go_ret
          rw [HE.out]
          exact ⟨rfl, _, rfl⟩
        · have HE : Hid (alk (p :: l) (q :: m) = eqs (p :: l) (q :: m)) := by rw [Hid, alk_cons, decide_eq_true (by simpa using hq)]; rfl
          go_enter Try.func38, Try.ntmps38
          go_wp2
          go_quiet (fail)
          go_wp2
          obtain ⟨A, hA⟩ : ∃ A, A = p :: l := ⟨_, rfl⟩
          obtain ⟨B, hB⟩ : ∃ B, B = q :: m := ⟨_, rfl⟩
          rw [← hA, ← hB] at HE
          rw [← hA] at H HL
          rw [← hB] at H' HL'
          have HAB : Hid (p :: l = A ∧ q :: m = B) := ⟨hA.symm, hB.symm⟩
          clear hA hB y0 y1 h0
          go_loopw [5] (fun i wr => ∃ j : Nat, i = .int .i64 j ∧ j ≤ n ∧ eqs (A.drop j) (B.drop j) = eqs A B ∧ ∃ q, wr = w.drewN q) (fun i _ => n - (numOf i).toNat)
          case atStart => exact ⟨0, rfl, by omega, rfl, _, rfl⟩
          case round =>
            obtain ⟨j, rfl, hj, hqq, k, rfl⟩ := hrel
            by_cases hgo : j < n
            · have e1 : decide ((j : Int) < n) = true := decide_eq_true (by omega)
              have e4 : (j : Int) < n := by omega
              obtain ⟨b1, off1, x, hbo, _, hx, _, hex⟩ := H.out.el hgo
              obtain ⟨b2, off2, y, hbo', _, hy, _, hey⟩ := H'.out.el hgo
              cases hbo
              cases hbo'
              obtain ⟨_, c0, c1, c2, c3⟩ := hex
              obtain ⟨_, d0, d1, d2, d3⟩ := hey
              have HD : Hid (eqs A B = (ssp x y && eqs (A.drop (j + 1)) (B.drop (j + 1)))) := by
                rw [Hid, ← hqq, drop_at hx, drop_at hy, eqs_cons]
              clear hx hy hqq
              cases h1 : (x.x == y.x)
              · have h1' : (x.x != y.x) = true := by rw [bne, h1]; rfl
                have HF : Hid (eqs A B = false) := by rw [Hid, HD.out, ssp, decide_eq_false (by simpa using h1)]; rfl
                go_wp2
                go_quiet (fail)
                go_wp2
                go_ret
                rw [HAB.out.1, HAB.out.2, HE.out, HF.out, World.drewN_drewN]
                exact ⟨rfl, _, rfl⟩
              · have h1' : (x.x != y.x) = false := by rw [bne, h1]; rfl
                cases h2 : (x.w == y.w)
                · have h2' : (x.w != y.w) = true := by rw [bne, h2]; rfl
                  have HF : Hid (eqs A B = false) := by rw [Hid, HD.out, ssp, decide_eq_false (p := x.w = y.w) (by simpa using h2), Bool.and_false]; rfl
                  go_wp2
                  go_quiet (fail)
                  go_wp2
                  go_ret
                  rw [HAB.out.1, HAB.out.2, HE.out, HF.out, World.drewN_drewN]
                  exact ⟨rfl, _, rfl⟩
                · have h2' : (x.w != y.w) = false := by rw [bne, h2]; rfl
                  have HF : Hid (eqs (A.drop (j + 1)) (B.drop (j + 1)) = eqs A B) := by rw [Hid, HD.out, ssp, decide_eq_true (by simpa using h1), decide_eq_true (by simpa using h2)]; rfl
                  go_wp2
                  go_quiet (fail)
                  go_wp2
                  go_roundw
                  case rel => exact ⟨j + 1, by go_num, by omega, HF.out, _, rfl⟩
                  case measure => simp [numOf]; omega
            · have e1 : decide ((j : Int) < n) = false := decide_eq_false (by omega)
              have HF : Hid (eqs A B = true) := by
                rw [Hid, ← hqq, List.drop_eq_nil_of_le (by rw [HL.out]; omega), List.drop_eq_nil_of_le (by rw [HL'.out]; omega)]
                rfl
              clear hqq
              go_wp2
              go_ret
              rw [HAB.out.1, HAB.out.2, HE.out, HF.out]
              exact ⟨rfl, _, rfl⟩
    · have HE : Hid (alk (p :: l) m = false) := by
        rw [Hid]
        cases m with
        | nil => rw [alk]; simp
        | cons q m => rw [alk_cons, eqs_len (by omega), Bool.and_false]
      have e1 : ((n : Int) == n') = false := by simp; omega
      have e2 : ((n : Int) != n') = true := by simp; omega
      have e6 : ¬ (n : Int) = n' := by omega
      have e7 : (n != n') = true := by simp; omega
      have e9 : (n == n') = false := by simp; omega
      clear h h' hk hl hl'
      go_enter Try.func38, Try.ntmps38
      go_wp2
      go_quiet (fail)
      go_wp2
      go_ret
      rw [HE.out]
      exact ⟨rfl, _, rfl⟩
end Go.Proofs.Ytlkodgmnhphfcaa
