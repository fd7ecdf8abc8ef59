/- The contracts of the program's wire.readNumber, wire.readArg. -/
import Derived.Test.YtoggnfadfocogaaDoorWireF
namespace Go.Proofs.YtoggnfadfocogaaDoor
open Go Go.RowKit

/-- A number of 32 bits, with its sign. -/
def sgn (v : Nat) : Int := if v < 2147483648 then v else v - 4294967296
def isSg (z : Nat) : Bool := decide (z = 105) || decide (z = 102)
def isNum (z : Nat) : Bool := isSg z || (decide (z = 117) || (decide (z = 111) || decide (z = 110)))
def numZ (z v : Nat) : Int := if isSg z then sgn v else v

theorem sgn_wrap (v : Nat) (h : v < 4294967296) : wrap64 (wrap32 (v : Int)) = sgn v := by
  unfold sgn wrap64 wrap32
  split <;> omega

theorem getV_lt (l : List UInt8) (p : Int) : getV l p < 4294967296 := by
  unfold getV
  split
  · exact num4_lt _ _
  · decide

set_option maxRecDepth 100000 in
theorem readNumber_any (w : World) (a : Option Addr) (n c : Nat) (p : Int) (z v : Nat) (hv : v < 4294967296) (x : Value)
    (H : Calls Tryd.prog 32 #[.slice a n c, .int .i64 p] w fun e w' => e = .returned (.tuple #[.int .u32 v, x]) ∧ ∃ q, w' = w.drewN q) :
    Calls Tryd.prog 48 #[.slice a n c, .int .i64 p, .int .u8 z] w fun e w' => e = .returned (.tuple #[.int .i64 (numZ z v), x]) ∧ ∃ q, w' = w.drewN q := by
  have H' : Hid (Calls Tryd.prog 32 #[.slice a n c, .int .i64 p] w fun e w' => e = .returned (.tuple #[.int .u32 v, x]) ∧ ∃ q, w' = w.drewN q) := H
  clear H
  by_cases h1 : z = 105
  · subst h1
    have HZ : Hid (numZ 105 v = sgn v) := rfl
    rw [HZ.out]
    go_enter Tryd.func48, Tryd.ntmps48
    go_wp2_with fail
    refine H'.out.mono ?_
    rintro e w2 ⟨rfl, q, rfl⟩
    go_wp2
    go_ret2
    exact ⟨ret2 (sgn_wrap v hv), _, rfl⟩
  · by_cases h2 : z = 102
    · subst h2
      have HZ : Hid (numZ 102 v = sgn v) := rfl
      rw [HZ.out]
      go_enter Tryd.func48, Tryd.ntmps48
      go_wp2_with fail
      refine H'.out.mono ?_
      rintro e w2 ⟨rfl, q, rfl⟩
      go_wp2
      go_ret2
      exact ⟨ret2 (sgn_wrap v hv), _, rfl⟩
    · have HZ : Hid (numZ z v = v) := by simp [Hid, numZ, isSg, h1, h2]
      have e1 : ((z : Int) == 105) = false := beq_eq_false_iff_ne.2 (by omega)
      have e2 : ((z : Int) == 102) = false := beq_eq_false_iff_ne.2 (by omega)
      clear h1 h2
      rw [HZ.out]
      go_enter Tryd.func48, Tryd.ntmps48
      go_wp2_with fail
      refine H'.out.mono ?_
      rintro e w2 ⟨rfl, q, rfl⟩
      go_wp2
      go_ret2
      exact ⟨rfl, _, rfl⟩

/-! What readArg reads. -/
def rdE (l : List UInt8) (p : Int) (z : Nat) : Nat := if isNum z then getE l p else if z = 115 then txtE l p else if z = 97 then lstE l p else 1
def rdN (l : List UInt8) (p : Int) (z : Nat) : Int := if isNum z then numZ z (getV l p) else 0
def rdS (l : List UInt8) (p : Int) (z : Nat) : List UInt8 := if isNum z then [] else if z = 115 then txtS l p else if z = 97 then lstS l p else []
def rdX (l : List UInt8) (p : Nat) (z : Nat) : Nat := if isNum z then p + 4 else if z = 115 then txtN l p else if z = 97 then lstN l p else 0

def argV (k : Nat) (n : Int) (s : List UInt8) : Value := .agg #[.int .u8 k, .int .i64 n, .string ⟨s.toArray⟩]

set_option maxRecDepth 100000 in
set_option maxHeartbeats 1000000 in
theorem readArg_num (w : World) (a : Option Addr) (n c : Nat) (p : Nat) (hp : p ≤ 1000000) (z : Nat) (hz : isNum z = true) (N : Int) (x : Value)
    (H : ∀ o, Calls Tryd.prog 48 #[.slice a n c, .int .i64 p, .int .u8 z] (w.alloc o) fun e w' => e = .returned (.tuple #[.int .i64 N, x]) ∧ ∃ q, w' = (w.alloc o).drewN q) :
    Calls Tryd.prog 40 #[.slice a n c, .int .i64 p, .int .u8 z] w fun e w' => e = .returned (.tuple #[argV z N [], .int .i64 (p + 4 : Nat), x]) ∧ Below w.heap.size w w' := by
  have H' : Hid (∀ o, Calls Tryd.prog 48 #[.slice a n c, .int .i64 p, .int .u8 z] (w.alloc o) fun e w' => e = .returned (.tuple #[.int .i64 N, x]) ∧ ∃ q, w' = (w.alloc o).drewN q) := H
  have hz' : z = 105 ∨ z = 102 ∨ z = 117 ∨ z = 111 ∨ z = 110 := by simpa [isNum, isSg, or_assoc] using hz
  clear H hz
  have HB : Hid (∀ o q (v1 v2 v3 v4 : Value), Below w.heap.size w ((((((w.alloc o).drewN q).setCell ⟨w.heap.size, 1, none⟩ v1).setCell ⟨w.heap.size, 0, none⟩ v2).setCell ⟨w.heap.size, 1, none⟩ v3).setCell ⟨w.heap.size, 2, none⟩ v4)) := fun o q v1 v2 v3 v4 =>
    ((((below_drewN ((Below.refl _ _).alloc (Nat.le_refl _) o) q).setCell (p := ⟨w.heap.size, 1, none⟩) (Nat.le_refl _) v1).setCell (p := ⟨w.heap.size, 0, none⟩) (Nat.le_refl _) v2).setCell (p := ⟨w.heap.size, 1, none⟩) (Nat.le_refl _) v3).setCell (p := ⟨w.heap.size, 2, none⟩) (Nat.le_refl _) v4
  rcases hz' with rfl | rfl | rfl | rfl | rfl
  all_goals
    go_enter Tryd.func40, Tryd.ntmps40
    go_wp2_with fail
    refine (H'.out _).mono ?_
    rintro e w2 ⟨rfl, q, rfl⟩
    go_wp2
    refine bodyPost_ret (v := .tuple #[argV _ N [], .int .i64 (p + 4 : Nat), x]) ?_ rfl ⟨rfl, HB.out _ _ _ _ _ _⟩
    simp [results, Tryd.results40, go_sem, argV]

set_option maxRecDepth 100000 in
set_option maxHeartbeats 1000000 in
theorem readArg_text (w : World) (a : Option Addr) (n c : Nat) (p : Int) (s : List UInt8) (x : Value) (m : Nat)
    (H : ∀ o, Calls Tryd.prog 49 #[.slice a n c, .int .i64 p] (w.alloc o) fun e w' => e = .returned (.tuple #[.string ⟨s.toArray⟩, .int .i64 m, x]) ∧ ∃ q, w' = (w.alloc o).drewN q) :
    Calls Tryd.prog 40 #[.slice a n c, .int .i64 p, .int .u8 115] w fun e w' => e = .returned (.tuple #[argV 115 0 s, .int .i64 m, x]) ∧ Below w.heap.size w w' := by
  have H' : Hid (∀ o, Calls Tryd.prog 49 #[.slice a n c, .int .i64 p] (w.alloc o) fun e w' => e = .returned (.tuple #[.string ⟨s.toArray⟩, .int .i64 m, x]) ∧ ∃ q, w' = (w.alloc o).drewN q) := H
  clear H
  have HB : Hid (∀ o q (v1 v2 v3 v4 : Value), Below w.heap.size w ((((((w.alloc o).drewN q).setCell ⟨w.heap.size, 2, none⟩ v1).setCell ⟨w.heap.size, 0, none⟩ v2).setCell ⟨w.heap.size, 1, none⟩ v3).setCell ⟨w.heap.size, 2, none⟩ v4)) := fun o q v1 v2 v3 v4 =>
    ((((below_drewN ((Below.refl _ _).alloc (Nat.le_refl _) o) q).setCell (p := ⟨w.heap.size, 2, none⟩) (Nat.le_refl _) v1).setCell (p := ⟨w.heap.size, 0, none⟩) (Nat.le_refl _) v2).setCell (p := ⟨w.heap.size, 1, none⟩) (Nat.le_refl _) v3).setCell (p := ⟨w.heap.size, 2, none⟩) (Nat.le_refl _) v4
  go_enter Tryd.func40, Tryd.ntmps40
  go_wp2_with fail
  refine (H'.out _).mono ?_
  rintro e w2 ⟨rfl, q, rfl⟩
  go_wp2
  refine bodyPost_ret (v := .tuple #[argV 115 0 s, .int .i64 m, x]) ?_ rfl ⟨rfl, HB.out _ _ _ _ _ _⟩
  simp [results, Tryd.results40, go_sem, argV]

set_option maxRecDepth 100000 in
set_option maxHeartbeats 1000000 in
theorem readArg_list (w : World) (a : Option Addr) (n c : Nat) (p : Int) (s : List UInt8) (x : Value) (m : Nat)
    (H : ∀ o, Calls Tryd.prog 50 #[.slice a n c, .int .i64 p] (w.alloc o) fun e w' => e = .returned (.tuple #[.string ⟨s.toArray⟩, .int .i64 m, x]) ∧ ∃ q, w' = (w.alloc o).drewN q) :
    Calls Tryd.prog 40 #[.slice a n c, .int .i64 p, .int .u8 97] w fun e w' => e = .returned (.tuple #[argV 97 0 s, .int .i64 m, x]) ∧ Below w.heap.size w w' := by
  have H' : Hid (∀ o, Calls Tryd.prog 50 #[.slice a n c, .int .i64 p] (w.alloc o) fun e w' => e = .returned (.tuple #[.string ⟨s.toArray⟩, .int .i64 m, x]) ∧ ∃ q, w' = (w.alloc o).drewN q) := H
  clear H
  have HB : Hid (∀ o q (v1 v2 v3 v4 : Value), Below w.heap.size w ((((((w.alloc o).drewN q).setCell ⟨w.heap.size, 2, none⟩ v1).setCell ⟨w.heap.size, 0, none⟩ v2).setCell ⟨w.heap.size, 1, none⟩ v3).setCell ⟨w.heap.size, 2, none⟩ v4)) := fun o q v1 v2 v3 v4 =>
    ((((below_drewN ((Below.refl _ _).alloc (Nat.le_refl _) o) q).setCell (p := ⟨w.heap.size, 2, none⟩) (Nat.le_refl _) v1).setCell (p := ⟨w.heap.size, 0, none⟩) (Nat.le_refl _) v2).setCell (p := ⟨w.heap.size, 1, none⟩) (Nat.le_refl _) v3).setCell (p := ⟨w.heap.size, 2, none⟩) (Nat.le_refl _) v4
  go_enter Tryd.func40, Tryd.ntmps40
  go_wp2_with fail
  refine (H'.out _).mono ?_
  rintro e w2 ⟨rfl, q, rfl⟩
  go_wp2
  refine bodyPost_ret (v := .tuple #[argV 97 0 s, .int .i64 m, x]) ?_ rfl ⟨rfl, HB.out _ _ _ _ _ _⟩
  simp [results, Tryd.results40, go_sem, argV]

set_option maxRecDepth 100000 in
set_option maxHeartbeats 1000000 in
theorem readArg_none (w : World) (a : Option Addr) (n c : Nat) (p : Int) (z : Nat) (h1 : isNum z = false) (h2 : z ≠ 115) (h3 : z ≠ 97) (v1 : Value) (hA : w.cell? ⟨2, 0, none⟩ = some v1) :
    Calls Tryd.prog 40 #[.slice a n c, .int .i64 p, .int .u8 z] w fun e w' => e = .returned (.tuple #[argV z 0 [], .int .i64 0, v1]) ∧ Below w.heap.size w w' := by
  have hz : z ≠ 105 ∧ z ≠ 102 ∧ z ≠ 117 ∧ z ≠ 111 ∧ z ≠ 110 := by simpa [isNum, isSg, and_assoc] using h1
  have hl := World.block_lt_of_cell? w _ hA
  have hb : ∀ o, (w.alloc o).cell? ⟨2, 0, none⟩ = some v1 := fun o => by rw [World.cell?_alloc_lt _ _ _ hl]; exact hA
  have e1 : ((z : Int) == 105) = false := beq_eq_false_iff_ne.2 (by omega)
  have e2 : ((z : Int) == 102) = false := beq_eq_false_iff_ne.2 (by omega)
  have e3 : ((z : Int) == 110) = false := beq_eq_false_iff_ne.2 (by omega)
  have e4 : ((z : Int) == 117) = false := beq_eq_false_iff_ne.2 (by omega)
  have e5 : ((z : Int) == 111) = false := beq_eq_false_iff_ne.2 (by omega)
  have e6 : ((z : Int) == 115) = false := beq_eq_false_iff_ne.2 (by omega)
  have e7 : ((z : Int) == 97) = false := beq_eq_false_iff_ne.2 (by omega)
  clear h1 h2 h3 hz hA
  go_enter Tryd.func40, Tryd.ntmps40
  go_wp2
  refine bodyPost_ret (v := .tuple #[argV z 0 [], .int .i64 0, v1]) ?_ rfl ⟨rfl, ?_⟩
  · simp [results, Tryd.results40, go_sem, argV]
  · exact (Below.refl _ _).alloc (Nat.le_refl _) _

theorem readArg_any (w : World) (a : Option Addr) (n c : Nat) (l : List UInt8) (hr : Rd w a n c l) (hn : n ≤ 1152921504606846976) (es : List Addr) (hE : E4 w es) (p : Nat) (hp : p ≤ 1000000) (z : Nat) :
    Calls Tryd.prog 40 #[.slice a n c, .int .i64 p, .int .u8 z] w fun e w' => e = .returned (.tuple #[argV z (rdN l p z) (rdS l p z), .int .i64 (rdX l p z : Nat), erv es (rdE l p z)]) ∧ Below w.heap.size w w' := by
  have hb : ∀ o, Below w.heap.size w (w.alloc o) := fun o => (Below.refl _ _).alloc (Nat.le_refl _) o
  cases hz : isNum z with
  | true =>
    have e1 : rdN l p z = numZ z (getV l p) := by rw [rdN, hz]; rfl
    have e2 : rdS l p z = [] := by rw [rdS, hz]; rfl
    have e3 : rdX l p z = p + 4 := by rw [rdX, hz]; rfl
    have e4 : rdE l p z = getE l p := by rw [rdE, hz]; rfl
    rw [e1, e2, e3, e4]
    refine readArg_num w a n c p hp z hz _ _ fun o => ?_
    exact readNumber_any _ a n c p z _ (getV_lt l p) _ (get_any _ a n c l (hr.below (hb o) (rd_low hr)) hn es (hE.below (hb o)) p)
  | false =>
    by_cases h1 : z = 115
    · subst h1
      exact readArg_text w a n c p _ _ _ fun o => getText_any _ a n c l (hr.below (hb o) (rd_low hr)) hn es (hE.below (hb o)) p
    · by_cases h2 : z = 97
      · subst h2
        exact readArg_list w a n c p _ _ _ fun o => getList_any _ a n c l (hr.below (hb o) (rd_low hr)) hn es (hE.below (hb o)) p
      · have e1 : rdN l p z = 0 := by rw [rdN, hz]; rfl
        have e2 : rdS l p z = [] := by rw [rdS, hz, if_neg h1, if_neg h2]; rfl
        have e3 : rdX l p z = 0 := by rw [rdX, hz, if_neg h1, if_neg h2]; rfl
        have e4 : rdE l p z = 1 := by rw [rdE, hz, if_neg h1, if_neg h2]; rfl
        rw [e1, e2, e3, e4]
        exact readArg_none w a n c p z hz h1 h2 _ hE.arg
end Go.Proofs.YtoggnfadfocogaaDoor
