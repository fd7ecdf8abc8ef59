/- The contracts of the document's own answer for chapter 4 (tableauref04): one. -/
import Derived.Test.YtoggnfadfocogaaDoorWireM
import Derived.Test.YtoggnfadfocogaaDoorRefB
namespace Go.Proofs.YtoggnfadfocogaaDoor
open Go Go.RowKit

/-- What 'one' tells. -/
def oneE (E : Nat) (z : Nat) (N : Int) (S : List UInt8) : Nat := if E ≠ 0 then E else if (z = 110 ∧ N = 0) ∨ 200 < S.length then 3 else 0

theorem below_set {w u : World} {B : Nat} (h : Below B w u) (b i : Nat) (hb : B ≤ b) (v : Value) : Below B w (u.setCell ⟨b, i, none⟩ v) := h.setCell (p := ⟨b, i, none⟩) hb v

set_option maxRecDepth 100000 in
set_option maxHeartbeats 2000000 in
theorem one_num (w : World) (a : Option Addr) (n c : Nat) (p : Nat) (hp : p ≤ 1000000) (z : Nat) (hz : isNum z = true) (v : Nat) (hv : v < 4294967296) (E : Nat)
    (H : ∀ o o', Calls Tryd.prog 33 #[.slice a n c, .int .i64 p] ((w.alloc o).alloc o') fun e w' => e = .returned (.tuple #[.int .u32 v, .int .i64 E]) ∧ ∃ q, w' = ((w.alloc o).alloc o').drewN q) :
    Calls Tryd.prog 31 #[.slice a n c, .int .i64 p, .int .u8 z] w fun e w' => e = .returned (.tuple #[argV z (numZ z v) [], .int .i64 (p + 4 : Nat), .int .i64 (oneE E z (numZ z v) [] : Nat)]) ∧ Below w.heap.size w w' := by
  have H' : Hid (∀ o o', Calls Tryd.prog 33 #[.slice a n c, .int .i64 p] ((w.alloc o).alloc o') fun e w' => e = .returned (.tuple #[.int .u32 v, .int .i64 E]) ∧ ∃ q, w' = ((w.alloc o).alloc o').drewN q) := H
  have hz' : z = 105 ∨ z = 102 ∨ z = 117 ∨ z = 111 ∨ z = 110 := by simpa [isNum, isSg, or_assoc] using hz
  have hsg := sgn_wrap v hv
  clear H hz
  have HN : Hid (∀ z, isSg z = true → numZ z v = sgn v) := fun z h => by rw [numZ, h]; rfl
  have HM : Hid (∀ z, isSg z = false → numZ z v = v) := fun z h => by rw [numZ, h]; rfl
  by_cases hE : E = 0
  · subst hE
    rcases hz' with rfl | rfl | rfl | rfl | rfl
    · have HO : Hid (oneE 0 105 (numZ 105 v) [] = 0) := by simp [Hid, oneE]
      rw [HO.out, HN.out 105 rfl]
      go_enter Tryd.func31, Tryd.ntmps31
      go_wp2_with fail
      refine (H'.out _ _).mono ?_
      rintro e w2 ⟨rfl, q, rfl⟩
      go_wp2
      refine bodyPost_ret (v := .tuple #[argV 105 (sgn v) [], .int .i64 (p + 4 : Nat), .int .i64 (0 : Nat)]) ?_ rfl ⟨rfl, ?_⟩
      · simp [results, Tryd.results31, go_sem, argV]
      · repeat (refine Below.setCell ?_ (by first | exact Nat.le_refl _ | exact Nat.le_succ _) _)
        exact below_drewN (((Below.refl _ _).alloc (Nat.le_refl _) _).alloc (by simp) _) _
    · have HO : Hid (oneE 0 102 (numZ 102 v) [] = 0) := by simp [Hid, oneE]
      rw [HO.out, HN.out 102 rfl]
      go_enter Tryd.func31, Tryd.ntmps31
      go_wp2_with fail
      refine (H'.out _ _).mono ?_
      rintro e w2 ⟨rfl, q, rfl⟩
      go_wp2
      refine bodyPost_ret (v := .tuple #[argV 102 (sgn v) [], .int .i64 (p + 4 : Nat), .int .i64 (0 : Nat)]) ?_ rfl ⟨rfl, ?_⟩
      · simp [results, Tryd.results31, go_sem, argV]
      · repeat (refine Below.setCell ?_ (by first | exact Nat.le_refl _ | exact Nat.le_succ _) _)
        exact below_drewN (((Below.refl _ _).alloc (Nat.le_refl _) _).alloc (by simp) _) _
    · have HO : Hid (oneE 0 117 (numZ 117 v) [] = 0) := by simp [Hid, oneE]
      rw [HO.out, HM.out 117 rfl]
      clear hsg
      go_enter Tryd.func31, Tryd.ntmps31
      go_wp2_with fail
      refine (H'.out _ _).mono ?_
      rintro e w2 ⟨rfl, q, rfl⟩
      go_wp2
      refine bodyPost_ret (v := .tuple #[argV 117 (v : Int) [], .int .i64 (p + 4 : Nat), .int .i64 (0 : Nat)]) ?_ rfl ⟨rfl, ?_⟩
      · simp [results, Tryd.results31, go_sem, argV]
      · repeat (refine Below.setCell ?_ (by first | exact Nat.le_refl _ | exact Nat.le_succ _) _)
        exact below_drewN (((Below.refl _ _).alloc (Nat.le_refl _) _).alloc (by simp) _) _
    · have HO : Hid (oneE 0 111 (numZ 111 v) [] = 0) := by simp [Hid, oneE]
      rw [HO.out, HM.out 111 rfl]
      clear hsg
      go_enter Tryd.func31, Tryd.ntmps31
      go_wp2_with fail
      refine (H'.out _ _).mono ?_
      rintro e w2 ⟨rfl, q, rfl⟩
      go_wp2
      refine bodyPost_ret (v := .tuple #[argV 111 (v : Int) [], .int .i64 (p + 4 : Nat), .int .i64 (0 : Nat)]) ?_ rfl ⟨rfl, ?_⟩
      · simp [results, Tryd.results31, go_sem, argV]
      · repeat (refine Below.setCell ?_ (by first | exact Nat.le_refl _ | exact Nat.le_succ _) _)
        exact below_drewN (((Below.refl _ _).alloc (Nat.le_refl _) _).alloc (by simp) _) _
    · rw [HM.out 110 rfl]
      clear hsg
      by_cases hv0 : v = 0
      · subst hv0
        have HO : Hid (oneE 0 110 ((0 : Nat) : Int) [] = 3) := by simp [Hid, oneE]
        rw [HO.out]
        go_enter Tryd.func31, Tryd.ntmps31
        go_wp2_with fail
        refine (H'.out _ _).mono ?_
        rintro e w2 ⟨rfl, q, rfl⟩
        go_wp2
        refine bodyPost_ret (v := .tuple #[argV 110 ((0 : Nat) : Int) [], .int .i64 (p + 4 : Nat), .int .i64 (3 : Nat)]) ?_ rfl ⟨rfl, ?_⟩
        · simp [results, Tryd.results31, go_sem, argV]
        · repeat (refine Below.setCell ?_ (by first | exact Nat.le_refl _ | exact Nat.le_succ _) _)
          exact below_drewN (((Below.refl _ _).alloc (Nat.le_refl _) _).alloc (by simp) _) _
      · have HO : Hid (oneE 0 110 (v : Int) [] = 0) := by simp [Hid, oneE]; omega
        have e0 : ((v : Int) == 0) = false := beq_eq_false_iff_ne.2 (by omega)
        rw [HO.out]
        clear hv0
        go_enter Tryd.func31, Tryd.ntmps31
        go_wp2_with fail
        refine (H'.out _ _).mono ?_
        rintro e w2 ⟨rfl, q, rfl⟩
        go_wp2
        refine bodyPost_ret (v := .tuple #[argV 110 (v : Int) [], .int .i64 (p + 4 : Nat), .int .i64 (0 : Nat)]) ?_ rfl ⟨rfl, ?_⟩
        · simp [results, Tryd.results31, go_sem, argV]
        · repeat (refine Below.setCell ?_ (by first | exact Nat.le_refl _ | exact Nat.le_succ _) _)
          exact below_drewN (((Below.refl _ _).alloc (Nat.le_refl _) _).alloc (by simp) _) _
  · have HO : Hid (∀ N, oneE E z N [] = E) := fun N => by rw [oneE, if_pos hE]
    have e0 : ((E : Int) == 0) = false := beq_eq_false_iff_ne.2 (by omega)
    rw [HO.out]
    clear hE
    rcases hz' with rfl | rfl | rfl | rfl | rfl
    · rw [HN.out 105 rfl]
      go_enter Tryd.func31, Tryd.ntmps31
      go_wp2_with fail
      refine (H'.out _ _).mono ?_
      rintro e w2 ⟨rfl, q, rfl⟩
      go_wp2
      refine bodyPost_ret (v := .tuple #[argV 105 (sgn v) [], .int .i64 (p + 4 : Nat), .int .i64 (E : Nat)]) ?_ rfl ⟨rfl, ?_⟩
      · simp [results, Tryd.results31, go_sem, argV]
      · repeat (refine Below.setCell ?_ (by first | exact Nat.le_refl _ | exact Nat.le_succ _) _)
        exact below_drewN (((Below.refl _ _).alloc (Nat.le_refl _) _).alloc (by simp) _) _
    · rw [HN.out 102 rfl]
      go_enter Tryd.func31, Tryd.ntmps31
      go_wp2_with fail
      refine (H'.out _ _).mono ?_
      rintro e w2 ⟨rfl, q, rfl⟩
      go_wp2
      refine bodyPost_ret (v := .tuple #[argV 102 (sgn v) [], .int .i64 (p + 4 : Nat), .int .i64 (E : Nat)]) ?_ rfl ⟨rfl, ?_⟩
      · simp [results, Tryd.results31, go_sem, argV]
      · repeat (refine Below.setCell ?_ (by first | exact Nat.le_refl _ | exact Nat.le_succ _) _)
        exact below_drewN (((Below.refl _ _).alloc (Nat.le_refl _) _).alloc (by simp) _) _
    · rw [HM.out 117 rfl]
      clear hsg
      go_enter Tryd.func31, Tryd.ntmps31
      go_wp2_with fail
      refine (H'.out _ _).mono ?_
      rintro e w2 ⟨rfl, q, rfl⟩
      go_wp2
      refine bodyPost_ret (v := .tuple #[argV 117 (v : Int) [], .int .i64 (p + 4 : Nat), .int .i64 (E : Nat)]) ?_ rfl ⟨rfl, ?_⟩
      · simp [results, Tryd.results31, go_sem, argV]
      · repeat (refine Below.setCell ?_ (by first | exact Nat.le_refl _ | exact Nat.le_succ _) _)
        exact below_drewN (((Below.refl _ _).alloc (Nat.le_refl _) _).alloc (by simp) _) _
    · rw [HM.out 111 rfl]
      clear hsg
      go_enter Tryd.func31, Tryd.ntmps31
      go_wp2_with fail
      refine (H'.out _ _).mono ?_
      rintro e w2 ⟨rfl, q, rfl⟩
      go_wp2
      refine bodyPost_ret (v := .tuple #[argV 111 (v : Int) [], .int .i64 (p + 4 : Nat), .int .i64 (E : Nat)]) ?_ rfl ⟨rfl, ?_⟩
      · simp [results, Tryd.results31, go_sem, argV]
      · repeat (refine Below.setCell ?_ (by first | exact Nat.le_refl _ | exact Nat.le_succ _) _)
        exact below_drewN (((Below.refl _ _).alloc (Nat.le_refl _) _).alloc (by simp) _) _
    · rw [HM.out 110 rfl]
      clear hsg
      go_enter Tryd.func31, Tryd.ntmps31
      go_wp2_with fail
      refine (H'.out _ _).mono ?_
      rintro e w2 ⟨rfl, q, rfl⟩
      go_wp2
      refine bodyPost_ret (v := .tuple #[argV 110 (v : Int) [], .int .i64 (p + 4 : Nat), .int .i64 (E : Nat)]) ?_ rfl ⟨rfl, ?_⟩
      · simp [results, Tryd.results31, go_sem, argV]
      · repeat (refine Below.setCell ?_ (by first | exact Nat.le_refl _ | exact Nat.le_succ _) _)
        exact below_drewN (((Below.refl _ _).alloc (Nat.le_refl _) _).alloc (by simp) _) _

set_option maxRecDepth 100000 in
set_option maxHeartbeats 2000000 in
theorem one_text (w : World) (a : Option Addr) (n c : Nat) (p : Nat) (hp : p ≤ 1000000) (s : List UInt8) (hs : s.length ≤ 1000000) (m E : Nat)
    (H : ∀ o o', Calls Tryd.prog 41 #[.slice a n c, .int .i64 p] ((w.alloc o).alloc o') fun e w' => e = .returned (.tuple #[.string ⟨s.toArray⟩, .int .i64 m, .int .i64 E]) ∧ ∃ q, w' = ((w.alloc o).alloc o').drewN q) :
    Calls Tryd.prog 31 #[.slice a n c, .int .i64 p, .int .u8 115] w fun e w' => e = .returned (.tuple #[argV 115 0 s, .int .i64 m, .int .i64 (oneE E 115 0 s : Nat)]) ∧ Below w.heap.size w w' := by
  have H' : Hid (∀ o o', Calls Tryd.prog 41 #[.slice a n c, .int .i64 p] ((w.alloc o).alloc o') fun e w' => e = .returned (.tuple #[.string ⟨s.toArray⟩, .int .i64 m, .int .i64 E]) ∧ ∃ q, w' = ((w.alloc o).alloc o').drewN q) := H
  have hz : (⟨s.toArray⟩ : ByteArray).size = s.length := List.size_toArray
  clear H
  by_cases hE : E = 0
  · subst hE
    by_cases hl : 200 < s.length
    · have HO : Hid (oneE 0 115 0 s = 3) := by rw [Hid, oneE, if_neg (by simp), if_pos (.inr hl)]
      have e1 : decide ((200 : Int) < s.length) = true := decide_eq_true (by omega)
      rw [HO.out]
      clear hl
      go_enter Tryd.func31, Tryd.ntmps31
      go_wp2_with fail
      refine (H'.out _ _).mono ?_
      rintro e w2 ⟨rfl, q, rfl⟩
      go_wp2
      refine bodyPost_ret (v := .tuple #[argV 115 0 s, .int .i64 m, .int .i64 (3 : Nat)]) ?_ rfl ⟨rfl, ?_⟩
      · simp [results, Tryd.results31, go_sem, argV]
      · repeat (refine Below.setCell ?_ (by first | exact Nat.le_refl _ | exact Nat.le_succ _) _)
        exact below_drewN (((Below.refl _ _).alloc (Nat.le_refl _) _).alloc (by simp) _) _
    · have HO : Hid (oneE 0 115 0 s = 0) := by rw [Hid, oneE, if_neg (by simp), if_neg (by simp; omega)]
      have e1 : decide ((200 : Int) < s.length) = false := decide_eq_false (by omega)
      rw [HO.out]
      clear hl
      go_enter Tryd.func31, Tryd.ntmps31
      go_wp2_with fail
      refine (H'.out _ _).mono ?_
      rintro e w2 ⟨rfl, q, rfl⟩
      go_wp2
      refine bodyPost_ret (v := .tuple #[argV 115 0 s, .int .i64 m, .int .i64 (0 : Nat)]) ?_ rfl ⟨rfl, ?_⟩
      · simp [results, Tryd.results31, go_sem, argV]
      · repeat (refine Below.setCell ?_ (by first | exact Nat.le_refl _ | exact Nat.le_succ _) _)
        exact below_drewN (((Below.refl _ _).alloc (Nat.le_refl _) _).alloc (by simp) _) _
  · have HO : Hid (oneE E 115 0 s = E) := by rw [Hid, oneE, if_pos hE]
    have e0 : ((E : Int) == 0) = false := beq_eq_false_iff_ne.2 (by omega)
    rw [HO.out]
    clear hE
    go_enter Tryd.func31, Tryd.ntmps31
    go_wp2_with fail
    refine (H'.out _ _).mono ?_
    rintro e w2 ⟨rfl, q, rfl⟩
    go_wp2
    refine bodyPost_ret (v := .tuple #[argV 115 0 s, .int .i64 m, .int .i64 (E : Nat)]) ?_ rfl ⟨rfl, ?_⟩
    · simp [results, Tryd.results31, go_sem, argV]
    · repeat (refine Below.setCell ?_ (by first | exact Nat.le_refl _ | exact Nat.le_succ _) _)
      exact below_drewN (((Below.refl _ _).alloc (Nat.le_refl _) _).alloc (by simp) _) _

set_option maxRecDepth 100000 in
set_option maxHeartbeats 2000000 in
theorem one_list (w : World) (a : Option Addr) (n c : Nat) (p : Nat) (hp : p ≤ 1000000) (s : List UInt8) (hs : s.length ≤ 1000000) (m E : Nat)
    (H : ∀ o o', Calls Tryd.prog 42 #[.slice a n c, .int .i64 p] ((w.alloc o).alloc o') fun e w' => e = .returned (.tuple #[.string ⟨s.toArray⟩, .int .i64 m, .int .i64 E]) ∧ ∃ q, w' = ((w.alloc o).alloc o').drewN q) :
    Calls Tryd.prog 31 #[.slice a n c, .int .i64 p, .int .u8 97] w fun e w' => e = .returned (.tuple #[argV 97 0 s, .int .i64 m, .int .i64 (oneE E 97 0 s : Nat)]) ∧ Below w.heap.size w w' := by
  have H' : Hid (∀ o o', Calls Tryd.prog 42 #[.slice a n c, .int .i64 p] ((w.alloc o).alloc o') fun e w' => e = .returned (.tuple #[.string ⟨s.toArray⟩, .int .i64 m, .int .i64 E]) ∧ ∃ q, w' = ((w.alloc o).alloc o').drewN q) := H
  have hz : (⟨s.toArray⟩ : ByteArray).size = s.length := List.size_toArray
  clear H
  by_cases hE : E = 0
  · subst hE
    by_cases hl : 200 < s.length
    · have HO : Hid (oneE 0 97 0 s = 3) := by rw [Hid, oneE, if_neg (by simp), if_pos (.inr hl)]
      have e1 : decide ((200 : Int) < s.length) = true := decide_eq_true (by omega)
      rw [HO.out]
      clear hl
      go_enter Tryd.func31, Tryd.ntmps31
      go_wp2_with fail
      refine (H'.out _ _).mono ?_
      rintro e w2 ⟨rfl, q, rfl⟩
      go_wp2
      refine bodyPost_ret (v := .tuple #[argV 97 0 s, .int .i64 m, .int .i64 (3 : Nat)]) ?_ rfl ⟨rfl, ?_⟩
      · simp [results, Tryd.results31, go_sem, argV]
      · repeat (refine Below.setCell ?_ (by first | exact Nat.le_refl _ | exact Nat.le_succ _) _)
        exact below_drewN (((Below.refl _ _).alloc (Nat.le_refl _) _).alloc (by simp) _) _
    · have HO : Hid (oneE 0 97 0 s = 0) := by rw [Hid, oneE, if_neg (by simp), if_neg (by simp; omega)]
      have e1 : decide ((200 : Int) < s.length) = false := decide_eq_false (by omega)
      rw [HO.out]
      clear hl
      go_enter Tryd.func31, Tryd.ntmps31
      go_wp2_with fail
      refine (H'.out _ _).mono ?_
      rintro e w2 ⟨rfl, q, rfl⟩
      go_wp2
      refine bodyPost_ret (v := .tuple #[argV 97 0 s, .int .i64 m, .int .i64 (0 : Nat)]) ?_ rfl ⟨rfl, ?_⟩
      · simp [results, Tryd.results31, go_sem, argV]
      · repeat (refine Below.setCell ?_ (by first | exact Nat.le_refl _ | exact Nat.le_succ _) _)
        exact below_drewN (((Below.refl _ _).alloc (Nat.le_refl _) _).alloc (by simp) _) _
  · have HO : Hid (oneE E 97 0 s = E) := by rw [Hid, oneE, if_pos hE]
    have e0 : ((E : Int) == 0) = false := beq_eq_false_iff_ne.2 (by omega)
    rw [HO.out]
    clear hE
    go_enter Tryd.func31, Tryd.ntmps31
    go_wp2_with fail
    refine (H'.out _ _).mono ?_
    rintro e w2 ⟨rfl, q, rfl⟩
    go_wp2
    refine bodyPost_ret (v := .tuple #[argV 97 0 s, .int .i64 m, .int .i64 (E : Nat)]) ?_ rfl ⟨rfl, ?_⟩
    · simp [results, Tryd.results31, go_sem, argV]
    · repeat (refine Below.setCell ?_ (by first | exact Nat.le_refl _ | exact Nat.le_succ _) _)
      exact below_drewN (((Below.refl _ _).alloc (Nat.le_refl _) _).alloc (by simp) _) _

set_option maxRecDepth 100000 in
set_option maxHeartbeats 1000000 in
theorem one_none (w : World) (a : Option Addr) (n c : Nat) (p : Nat) (hp : p ≤ 1000000) (z : Nat) (h1 : isNum z = false) (h2 : z ≠ 115) (h3 : z ≠ 97) :
    Calls Tryd.prog 31 #[.slice a n c, .int .i64 p, .int .u8 z] w fun e w' => e = .returned (.tuple #[argV z 0 [], .int .i64 0, .int .i64 1]) ∧ Below w.heap.size w w' := by
  have hz : z ≠ 105 ∧ z ≠ 102 ∧ z ≠ 117 ∧ z ≠ 111 ∧ z ≠ 110 := by simpa [isNum, isSg, and_assoc] using h1
  have e1 : ((z : Int) == 105) = false := beq_eq_false_iff_ne.2 (by omega)
  have e2 : ((z : Int) == 102) = false := beq_eq_false_iff_ne.2 (by omega)
  have e3 : ((z : Int) == 110) = false := beq_eq_false_iff_ne.2 (by omega)
  have e4 : ((z : Int) == 117) = false := beq_eq_false_iff_ne.2 (by omega)
  have e5 : ((z : Int) == 111) = false := beq_eq_false_iff_ne.2 (by omega)
  have e6 : ((z : Int) == 115) = false := beq_eq_false_iff_ne.2 (by omega)
  have e7 : ((z : Int) == 97) = false := beq_eq_false_iff_ne.2 (by omega)
  clear h1 h2 h3 hz
  go_enter Tryd.func31, Tryd.ntmps31
  go_wp2
  refine bodyPost_ret (v := .tuple #[argV z 0 [], .int .i64 0, .int .i64 1]) ?_ rfl ⟨rfl, ?_⟩
  · simp [results, Tryd.results31, go_sem, argV]
  · exact ((Below.refl _ _).alloc (Nat.le_refl _) _).alloc (by simp) _

theorem ended_clean {l : List UInt8} (h : ended l = true) : (0 : UInt8) ∉ l.dropLast := by
  intro hm
  rw [ended, Bool.and_eq_true] at h
  obtain ⟨h1, h2⟩ := h
  have hne : l ≠ [] := by
    rintro rfl
    simp at h1
  have hl : 0 < l.length := List.length_pos_iff.2 hne
  have e := List.dropLast_concat_getLast hne
  rw [beq_iff_eq] at h2
  have := index_le l.dropLast hm [l.getLast hne]
  rw [e, List.length_dropLast] at this
  omega

theorem oneE_ga (l : List UInt8) (p z : Nat) : oneE (rdE l p z) z (rdN l p z) (rdS l p z) = gaE l p z := by
  by_cases h0 : rdE l p z = 0
  · have q1 : ∀ N S, oneE (rdE l p z) z N S = if (z = 110 ∧ N = 0) ∨ 200 < S.length then 3 else 0 := fun N S => by
      rw [oneE, h0]
      rfl
    have q2 : gaE l p z = if suchB z (rdN l p z) (rdS l p z) then 0 else 3 := by
      rw [gaE, if_neg (by rw [h0]; decide)]
    rw [q1, q2]
    have h0' := h0
    unfold rdE at h0'
    split at h0'
    · rename_i hz
      have eS : rdS l p z = [] := by rw [rdS, if_pos hz]
      have eN : rdN l p z = numZ z (getV l p) := by rw [rdN, if_pos hz]
      have hv := getV_lt l p
      have hsg := sgn_range (getV l p) hv
      rw [eS, eN]
      have hz' : z = 105 ∨ z = 102 ∨ z = 117 ∨ z = 111 ∨ z = 110 := by simpa [isNum, isSg, or_assoc] using hz
      rcases hz' with rfl | rfl | rfl | rfl | rfl
      · have e1 : numZ 105 (getV l p) = sgn (getV l p) := rfl
        rw [e1]
        simp [suchB, hsg]
      · have e1 : numZ 102 (getV l p) = sgn (getV l p) := rfl
        rw [e1]
        simp [suchB, hsg]
      · have e1 : numZ 117 (getV l p) = (getV l p : Int) := rfl
        rw [e1]
        have : ((getV l p : Nat) : Int) ≤ 4294967295 := by omega
        simp [suchB, this]
      · have e1 : numZ 111 (getV l p) = (getV l p : Int) := rfl
        rw [e1]
        have : ((getV l p : Nat) : Int) ≤ 4294967295 := by omega
        simp [suchB, this]
      · have e1 : numZ 110 (getV l p) = (getV l p : Int) := rfl
        rw [e1]
        have h1 : ((getV l p : Nat) : Int) ≤ 4294967295 := by omega
        by_cases hv0 : getV l p = 0
        · simp [suchB, hv0]
        · have h2 : (1 : Int) ≤ (getV l p : Nat) := by omega
          rw [if_neg (by simp; omega)]
          simp [suchB, h1, h2]
    · rename_i hz
      split at h0'
      · rename_i h1
        obtain ⟨hL, hE⟩ := txtE_zero h0'
        have eS : rdS l p z = (lstS l p).dropLast := by rw [rdS, if_neg hz, if_pos h1, txtS, if_pos h0']
        have eN : rdN l p z = 0 := by rw [rdN, if_neg hz]
        have hc := ended_clean hE
        rw [eS, eN]
        subst h1
        generalize (lstS l p).dropLast = S at *
        by_cases hs : 200 < S.length
        · rw [if_pos (.inr hs), if_neg]
          simp [suchB]
          omega
        · rw [if_neg (by simp; omega), if_pos]
          simp [suchB, hc]
          omega
      · rename_i h1
        split at h0'
        · rename_i h2
          have eN : rdN l p z = 0 := by rw [rdN, if_neg hz]
          rw [eN]
          subst h2
          generalize rdS l p 97 = S at *
          by_cases hs : 200 < S.length
          · rw [if_pos (.inr hs), if_neg]
            simp [suchB]
            omega
          · rw [if_neg (by simp; omega), if_pos]
            simp [suchB]
            omega
        · cases h0'
  · rw [oneE, gaE, if_pos h0, if_pos h0]

theorem one_any (w : World) (a : Option Addr) (n c : Nat) (l : List UInt8) (hr : Rd w a n c l) (hn : n ≤ 1000000) (p : Nat) (hp : p ≤ 1000000) (z : Nat) :
    Calls Tryd.prog 31 #[.slice a n c, .int .i64 p, .int .u8 z] w fun e w' => e = .returned (.tuple #[argV z (rdN l p z) (rdS l p z), .int .i64 (rdX l p z : Nat), .int .i64 (gaE l p z : Nat)]) ∧ Below w.heap.size w w' := by
  have hl := hr.len
  have hb : ∀ o o', Below w.heap.size w ((w.alloc o).alloc o') := fun o o' => ((Below.refl _ _).alloc (Nat.le_refl _) o).alloc (by simp) o'
  have hsz := rdS_le l p z
  rw [← oneE_ga]
  cases hz : isNum z with
  | true =>
    have e1 : rdN l p z = numZ z (getV l p) := by rw [rdN, hz]; rfl
    have e2 : rdS l p z = [] := by rw [rdS, hz]; rfl
    have e3 : rdX l p z = p + 4 := by rw [rdX, hz]; rfl
    have e4 : rdE l p z = getE l p := by rw [rdE, hz]; rfl
    rw [e1, e2, e3, e4]
    exact one_num w a n c p hp z hz _ (getV_lt l p) _ fun o o' => rGet_any _ a n c l (hr.below (hb o o') (rd_low hr)) (by omega) p
  | false =>
    by_cases h1 : z = 115
    · subst h1
      exact one_text w a n c p hp _ (by omega) _ _ fun o o' => rGetText_any _ a n c l (hr.below (hb o o') (rd_low hr)) (by omega) p
    · by_cases h2 : z = 97
      · subst h2
        exact one_list w a n c p hp _ (by omega) _ _ fun o o' => rGetList_any _ a n c l (hr.below (hb o o') (rd_low hr)) (by omega) p
      · have e1 : rdN l p z = 0 := by rw [rdN, hz]; rfl
        have e2 : rdS l p z = [] := by rw [rdS, hz, if_neg h1, if_neg h2]; rfl
        have e3 : rdX l p z = 0 := by rw [rdX, hz, if_neg h1, if_neg h2]; rfl
        have e4 : rdE l p z = 1 := by rw [rdE, hz, if_neg h1, if_neg h2]; rfl
        rw [e1, e2, e3, e4]
        exact one_none w a n c p hp z hz h1 h2
end Go.Proofs.YtoggnfadfocogaaDoor
