/- Lemmas that the proof leans on. -/
import Derived.Test.YtpbgbpcdohdecaaGreatDoorB27
namespace Go.Proofs.YtpbgbpcdohdecaaGreatDoor
open Go Go.RowKit
set_option maxRecDepth 100000
set_option maxHeartbeats 2000000
section
def sgn (v : Nat) : Int := if v < 2147483648 then v else v - 4294967296
def isSg (z : Nat) : Bool := decide (z = 105) || decide (z = 102)
def isNum (z : Nat) : Bool := isSg z || (decide (z = 117) || (decide (z = 111) || decide (z = 110)))
def numZ (z v : Nat) : Int := if isSg z then sgn v else v
theorem sgn_wrap (v : Nat) (h : v < 4294967296) : wrap64 (wrap32 (v : Int)) = sgn v := by
 unfold sgn wrap64 wrap32
 split <;> omega
theorem getV_lt (l : List UInt8) (p : Int) : getV l p < 4294967296 := by
 unfold getV
 split
 ·exact num4_lt_WireF _ _
 ·decide
theorem readNumber_any (w : World) (a : Option Addr) (n c : Nat) (p : Int) (z v : Nat) (hv : v < 4294967296) (x : Value)
  (H : Calls Tryz.prog 233 #[.slice a n c, .int .i64 p] w fun e w' => e = .returned (.tuple #[.int .u32 v, x]) ∧ ∃ q, w' = w.drewN q) :
  Calls Tryz.prog 169 #[.slice a n c, .int .i64 p, .int .u8 z] w fun e w' => e = .returned (.tuple #[.int .i64 (numZ z v), x]) ∧ ∃ q, w' = w.drewN q := by
 have H' : Hid (Calls Tryz.prog 233 #[.slice a n c, .int .i64 p] w fun e w' => e = .returned (.tuple #[.int .u32 v, x]) ∧ ∃ q, w' = w.drewN q) := H
 clear H
 by_cases h1 : z = 105
 ·subst h1
  have HZ : Hid (numZ 105 v = sgn v) := rfl
  rw [HZ.out]
  go_enter Tryz.func169, Tryz.ntmps169
  go_wp2_with fail
  refine H'.out.mono ?_
  rintro e w2 ⟨rfl, q, rfl⟩
  go_wp2
  go_ret2
  exact ⟨ret2 (sgn_wrap v hv), _, rfl⟩
 ·by_cases h2 : z = 102
  ·subst h2
   have HZ : Hid (numZ 102 v = sgn v) := rfl
   rw [HZ.out]
   go_enter Tryz.func169, Tryz.ntmps169
   go_wp2_with fail
   refine H'.out.mono ?_
   rintro e w2 ⟨rfl, q, rfl⟩
   go_wp2
   go_ret2
   exact ⟨ret2 (sgn_wrap v hv), _, rfl⟩
  ·have HZ : Hid (numZ z v = v) := by simp [Hid, numZ, isSg, h1, h2]
   have e1 : ((z : Int) == 105) = false := beq_eq_false_iff_ne.2 (by omega)
   have e2 : ((z : Int) == 102) = false := beq_eq_false_iff_ne.2 (by omega)
   clear h1 h2
   rw [HZ.out]
   go_enter Tryz.func169, Tryz.ntmps169
   go_wp2_with fail
   refine H'.out.mono ?_
   rintro e w2 ⟨rfl, q, rfl⟩
   go_wp2
   go_ret2
   exact ⟨rfl, _, rfl⟩
def rdE (l : List UInt8) (p : Int) (z : Nat) : Nat := if isNum z then getE l p else if z = 115 then txtE l p else if z = 97 then lstE l p else 1
def rdN (l : List UInt8) (p : Int) (z : Nat) : Int := if isNum z then numZ z (getV l p) else 0
def rdS (l : List UInt8) (p : Int) (z : Nat) : List UInt8 := if isNum z then [] else if z = 115 then txtS l p else if z = 97 then lstS l p else []
def rdX (l : List UInt8) (p : Nat) (z : Nat) : Nat := if isNum z then p + 4 else if z = 115 then txtN l p else if z = 97 then lstN l p else 0
def argV (k : Nat) (n : Int) (s : List UInt8) : Value := .agg #[.int .u8 k, .int .i64 n, .string ⟨s.toArray⟩]
theorem readArg_num (w : World) (a : Option Addr) (n c : Nat) (p : Nat) (hp : p ≤ 1000000) (z : Nat) (hz : isNum z = true) (N : Int) (x : Value)
  (H : ∀ o, Calls Tryz.prog 169 #[.slice a n c, .int .i64 p, .int .u8 z] (w.alloc o) fun e w' => e = .returned (.tuple #[.int .i64 N, x]) ∧ ∃ q, w' = (w.alloc o).drewN q) :
  Calls Tryz.prog 115 #[.slice a n c, .int .i64 p, .int .u8 z] w fun e w' => e = .returned (.tuple #[argV z N [], .int .i64 (p + 4 : Nat), x]) ∧ Below w.heap.size w w' := by
 have H' : Hid (∀ o, Calls Tryz.prog 169 #[.slice a n c, .int .i64 p, .int .u8 z] (w.alloc o) fun e w' => e = .returned (.tuple #[.int .i64 N, x]) ∧ ∃ q, w' = (w.alloc o).drewN q) := H
 have hz' : z = 105 ∨ z = 102 ∨ z = 117 ∨ z = 111 ∨ z = 110 := by simpa [isNum, isSg, or_assoc] using hz
 clear H hz
 have HB : Hid (∀ o q (v1 v2 v3 v4 : Value), Below w.heap.size w ((((((w.alloc o).drewN q).setCell ⟨w.heap.size, 1, none⟩ v1).setCell ⟨w.heap.size, 0, none⟩ v2).setCell ⟨w.heap.size, 1, none⟩ v3).setCell ⟨w.heap.size, 2, none⟩ v4)) := fun o q v1 v2 v3 v4 =>
  ((((below_drewN_LibK ((Below.refl _ _).alloc (Nat.le_refl _) o) q).setCell (p := ⟨w.heap.size, 1, none⟩) (Nat.le_refl _) v1).setCell (p := ⟨w.heap.size, 0, none⟩) (Nat.le_refl _) v2).setCell (p := ⟨w.heap.size, 1, none⟩) (Nat.le_refl _) v3).setCell (p := ⟨w.heap.size, 2, none⟩) (Nat.le_refl _) v4
 rcases hz' with rfl | rfl | rfl | rfl | rfl
 all_goals
  go_enter Tryz.func115, Tryz.ntmps115
  go_wp2_with fail
  refine (H'.out _).mono ?_
  rintro e w2 ⟨rfl, q, rfl⟩
  go_wp2
  refine bodyPost_ret (v := .tuple #[argV _ N [], .int .i64 (p + 4 : Nat), x]) ?_ rfl ⟨rfl, HB.out _ _ _ _ _ _⟩
  simp [results, Tryz.results115, go_sem, argV]
theorem readArg_text (w : World) (a : Option Addr) (n c : Nat) (p : Int) (s : List UInt8) (x : Value) (m : Nat)
  (H : ∀ o, Calls Tryz.prog 170 #[.slice a n c, .int .i64 p] (w.alloc o) fun e w' => e = .returned (.tuple #[.string ⟨s.toArray⟩, .int .i64 m, x]) ∧ ∃ q, w' = (w.alloc o).drewN q) :
  Calls Tryz.prog 115 #[.slice a n c, .int .i64 p, .int .u8 115] w fun e w' => e = .returned (.tuple #[argV 115 0 s, .int .i64 m, x]) ∧ Below w.heap.size w w' := by
 have H' : Hid (∀ o, Calls Tryz.prog 170 #[.slice a n c, .int .i64 p] (w.alloc o) fun e w' => e = .returned (.tuple #[.string ⟨s.toArray⟩, .int .i64 m, x]) ∧ ∃ q, w' = (w.alloc o).drewN q) := H
 clear H
 have HB : Hid (∀ o q (v1 v2 v3 v4 : Value), Below w.heap.size w ((((((w.alloc o).drewN q).setCell ⟨w.heap.size, 2, none⟩ v1).setCell ⟨w.heap.size, 0, none⟩ v2).setCell ⟨w.heap.size, 1, none⟩ v3).setCell ⟨w.heap.size, 2, none⟩ v4)) := fun o q v1 v2 v3 v4 =>
  ((((below_drewN_LibK ((Below.refl _ _).alloc (Nat.le_refl _) o) q).setCell (p := ⟨w.heap.size, 2, none⟩) (Nat.le_refl _) v1).setCell (p := ⟨w.heap.size, 0, none⟩) (Nat.le_refl _) v2).setCell (p := ⟨w.heap.size, 1, none⟩) (Nat.le_refl _) v3).setCell (p := ⟨w.heap.size, 2, none⟩) (Nat.le_refl _) v4
 go_enter Tryz.func115, Tryz.ntmps115
 go_wp2_with fail
 refine (H'.out _).mono ?_
 rintro e w2 ⟨rfl, q, rfl⟩
 go_wp2
 refine bodyPost_ret (v := .tuple #[argV 115 0 s, .int .i64 m, x]) ?_ rfl ⟨rfl, HB.out _ _ _ _ _ _⟩
 simp [results, Tryz.results115, go_sem, argV]
theorem readArg_list (w : World) (a : Option Addr) (n c : Nat) (p : Int) (s : List UInt8) (x : Value) (m : Nat)
  (H : ∀ o, Calls Tryz.prog 171 #[.slice a n c, .int .i64 p] (w.alloc o) fun e w' => e = .returned (.tuple #[.string ⟨s.toArray⟩, .int .i64 m, x]) ∧ ∃ q, w' = (w.alloc o).drewN q) :
  Calls Tryz.prog 115 #[.slice a n c, .int .i64 p, .int .u8 97] w fun e w' => e = .returned (.tuple #[argV 97 0 s, .int .i64 m, x]) ∧ Below w.heap.size w w' := by
 have H' : Hid (∀ o, Calls Tryz.prog 171 #[.slice a n c, .int .i64 p] (w.alloc o) fun e w' => e = .returned (.tuple #[.string ⟨s.toArray⟩, .int .i64 m, x]) ∧ ∃ q, w' = (w.alloc o).drewN q) := H
 clear H
 have HB : Hid (∀ o q (v1 v2 v3 v4 : Value), Below w.heap.size w ((((((w.alloc o).drewN q).setCell ⟨w.heap.size, 2, none⟩ v1).setCell ⟨w.heap.size, 0, none⟩ v2).setCell ⟨w.heap.size, 1, none⟩ v3).setCell ⟨w.heap.size, 2, none⟩ v4)) := fun o q v1 v2 v3 v4 =>
  ((((below_drewN_LibK ((Below.refl _ _).alloc (Nat.le_refl _) o) q).setCell (p := ⟨w.heap.size, 2, none⟩) (Nat.le_refl _) v1).setCell (p := ⟨w.heap.size, 0, none⟩) (Nat.le_refl _) v2).setCell (p := ⟨w.heap.size, 1, none⟩) (Nat.le_refl _) v3).setCell (p := ⟨w.heap.size, 2, none⟩) (Nat.le_refl _) v4
 go_enter Tryz.func115, Tryz.ntmps115
 go_wp2_with fail
 refine (H'.out _).mono ?_
 rintro e w2 ⟨rfl, q, rfl⟩
 go_wp2
 refine bodyPost_ret (v := .tuple #[argV 97 0 s, .int .i64 m, x]) ?_ rfl ⟨rfl, HB.out _ _ _ _ _ _⟩
 simp [results, Tryz.results115, go_sem, argV]
theorem readArg_none (w : World) (a : Option Addr) (n c : Nat) (p : Int) (z : Nat) (h1 : isNum z = false) (h2 : z ≠ 115) (h3 : z ≠ 97) (v1 : Value) (hA : w.cell? ⟨2, 0, none⟩ = some v1) :
  Calls Tryz.prog 115 #[.slice a n c, .int .i64 p, .int .u8 z] w fun e w' => e = .returned (.tuple #[argV z 0 [], .int .i64 0, v1]) ∧ Below w.heap.size w w' := by
 have hz : z ≠ 105 ∧ z ≠ 102 ∧ z ≠ 117 ∧ z ≠ 111 ∧ z ≠ 110 := by simpa [isNum, isSg, and_assoc] using h1
 have hl := World.block_lt_of_cell? w _ hA
 have hb : ∀ o, (w.alloc o).cell? ⟨2, 0, none⟩ = some v1 := fun o => by rw [World.cell?_alloc_lt _ _ _ hl]; exact hA
 have e1 : ((z : Int) == 105) = false := beq_eq_false_iff_ne.2 (by omega)
 have e2 : ((z : Int) == 102) = false := beq_eq_false_iff_ne.2 (by omega)
 have e3 : ((z : Int) == 110) = false := beq_eq_false_iff_ne.2 (by omega)
 have e4 : ((z : Int) == 117) = false := beq_eq_false_iff_ne.2 (by omega)
 have e5 : ((z : Int) == 111) = false := beq_eq_false_iff_ne.2 (by omega)
 have e6 : ((z : Int) == 115) = false := beq_eq_false_iff_ne.2 (by omega)
 have e7 : ((z : Int) == 97) = false := beq_eq_false_iff_ne.2 (by omega)
 clear h1 h2 h3 hz hA
 go_enter Tryz.func115, Tryz.ntmps115
 go_wp2
 refine bodyPost_ret (v := .tuple #[argV z 0 [], .int .i64 0, v1]) ?_ rfl ⟨rfl, ?_⟩
 ·simp [results, Tryz.results115, go_sem, argV]
 ·exact (Below.refl _ _).alloc (Nat.le_refl _) _
theorem readArg_any (w : World) (a : Option Addr) (n c : Nat) (l : List UInt8) (hr : Rd w a n c l) (hn : n ≤ 1152921504606846976) (es : List Addr) (hE : E4 w es) (p : Nat) (hp : p ≤ 1000000) (z : Nat) :
  Calls Tryz.prog 115 #[.slice a n c, .int .i64 p, .int .u8 z] w fun e w' => e = .returned (.tuple #[argV z (rdN l p z) (rdS l p z), .int .i64 (rdX l p z : Nat), erv es (rdE l p z)]) ∧ Below w.heap.size w w' := by
 have hb : ∀ o, Below w.heap.size w (w.alloc o) := fun o => (Below.refl _ _).alloc (Nat.le_refl _) o
 cases hz : isNum z with
 | true =>
  have e1 : rdN l p z = numZ z (getV l p) := by rw [rdN, hz]; rfl
  have e2 : rdS l p z = [] := by rw [rdS, hz]; rfl
  have e3 : rdX l p z = p + 4 := by rw [rdX, hz]; rfl
  have e4 : rdE l p z = getE l p := by rw [rdE, hz]; rfl
  rw [e1, e2, e3, e4]
  refine readArg_num w a n c p hp z hz _ _ fun o => ?_
  exact readNumber_any _ a n c p z _ (getV_lt l p) _ (get_any _ a n c l (hr.below (hb o) (rd_low_WireF hr)) hn es (hE.below (hb o)) p)
 | false =>
  by_cases h1 : z = 115
  ·subst h1
   exact readArg_text w a n c p _ _ _ fun o => getText_any _ a n c l (hr.below (hb o) (rd_low_WireF hr)) hn es (hE.below (hb o)) p
  ·by_cases h2 : z = 97
   ·subst h2
    exact readArg_list w a n c p _ _ _ fun o => getList_any _ a n c l (hr.below (hb o) (rd_low_WireF hr)) hn es (hE.below (hb o)) p
   ·have e1 : rdN l p z = 0 := by rw [rdN, hz]; rfl
    have e2 : rdS l p z = [] := by rw [rdS, hz, if_neg h1, if_neg h2]; rfl
    have e3 : rdX l p z = 0 := by rw [rdX, hz, if_neg h1, if_neg h2]; rfl
    have e4 : rdE l p z = 1 := by rw [rdE, hz, if_neg h1, if_neg h2]; rfl
    rw [e1, e2, e3, e4]
    exact readArg_none w a n c p z hz h1 h2 _ hE.arg
end
section
theorem eqNilS_WireH (x : Addr) (w : World) : (binOp .eql 24 .nilIface (.iface 392 (.pointer (some x)))).run Tryz.prog w = .ok (.bool false) w := by kernel_rfl
theorem Is_nil_WireH (w : World) (x : Addr) : Calls Tryz.prog 32 #[.nilIface, .iface 392 (.pointer (some x))] w fun e w' => e = .returned (.bool false) ∧ w' = w := by
 have heq := eqNilS_WireH
 go_enter Tryz.func32, Tryz.ntmps32
 go_wp2
 go_ret
 exact ⟨rfl, rfl⟩
abbrev wA (w : World) : World := w.alloc (.cells #[.int .u8 0, .int .i64 0, .string ⟨#[]⟩] 34)
theorem wA_below (w : World) : Below w.heap.size w (wA w) := (Below.refl _ _).alloc (Nat.le_refl _) _
theorem wA_new (w : World) : (wA w).heap[w.heap.size]? = some (.cells #[.int .u8 0, .int .i64 0, .string ⟨#[]⟩] 34 (0, 0)) := by
 show (w.heap.push _)[w.heap.size]? = _
 simp
theorem wA_keeps {w w' : World} (h : Below (wA w).heap.size (wA w) w') : w'.heap[w.heap.size]? = some (.cells #[.int .u8 0, .int .i64 0, .string ⟨#[]⟩] 34 (0, 0)) ∧ Below w.heap.size w w' := by
 refine ⟨?_, Below.on (wA_below w) h⟩
 rw [h.block _ (by show _ < (w.heap.push _).size; simp)]
 exact wA_new w
theorem below_set3_WireH {w u : World} (h : Below w.heap.size w u) (v1 v2 v3 : Value) : Below w.heap.size w (((u.setCell ⟨w.heap.size, 0, none⟩ v1).setCell ⟨w.heap.size, 1, none⟩ v2).setCell ⟨w.heap.size, 2, none⟩ v3) :=
 ((h.setCell (p := ⟨w.heap.size, 0, none⟩) (Nat.le_refl _) v1).setCell (p := ⟨w.heap.size, 1, none⟩) (Nat.le_refl _) v2).setCell (p := ⟨w.heap.size, 2, none⟩) (Nat.le_refl _) v3
theorem getArg_err (w : World) (a : Option Addr) (n c : Nat) (p : Int) (z : Nat) (N : Int) (s : List UInt8) (m : Nat) (x : Addr)
  (H : Calls Tryz.prog 115 #[.slice a n c, .int .i64 p, .int .u8 z] (wA w) fun e w' => e = .returned (.tuple #[argV z N s, .int .i64 m, .iface 392 (.pointer (some x))]) ∧ Below (wA w).heap.size (wA w) w') :
  Calls Tryz.prog 72 #[.slice a n c, .int .i64 p, .int .u8 z] w fun e w' => e = .returned (.tuple #[argV 0 0 [], .int .i64 0, .iface 392 (.pointer (some x))]) ∧ Below w.heap.size w w' := by
 have H' : Hid (Calls Tryz.prog 115 #[.slice a n c, .int .i64 p, .int .u8 z] (wA w) fun e w' => e = .returned (.tuple #[.agg #[.int .u8 z, .int .i64 N, .string ⟨s.toArray⟩], .int .i64 m, .iface 392 (.pointer (some x))]) ∧ w'.heap[w.heap.size]? = some (.cells #[.int .u8 0, .int .i64 0, .string ⟨#[]⟩] 34 (0, 0)) ∧ Below w.heap.size w w') := by
  refine H.mono ?_
  rintro e w' ⟨rfl, hb⟩
  exact ⟨rfl, wA_keeps hb⟩
 clear H
 go_enter Tryz.func72, Tryz.ntmps72
 go_wp2_with fail
 refine H'.out.mono ?_
 rintro e w1 ⟨rfl, hz, hb⟩
 have zl : w.heap.size < w1.heap.size := (Array.getElem?_eq_some_iff.1 hz).1
 have z0 : w1.cell? ⟨w.heap.size, 0, none⟩ = some (.int .u8 0) := by rw [World.cell?, hz]; rfl
 have z1 : w1.cell? ⟨w.heap.size, 1, none⟩ = some (.int .i64 0) := by rw [World.cell?, hz]; rfl
 have z2 : w1.cell? ⟨w.heap.size, 2, none⟩ = some (.string ⟨#[]⟩) := by rw [World.cell?, hz]; rfl
 have zf : ∀ k, w1.frozen? ⟨w.heap.size, k, none⟩ = false := Lib.frozen_of_heap hz
 have HB : Hid (Below w.heap.size w w1) := hb
 clear hz hb H'
 go_wp2
 refine bodyPost_ret (v := .tuple #[argV 0 0 [], .int .i64 0, .iface 392 (.pointer (some x))]) ?_ rfl ⟨rfl, ?_⟩
 ·simp [results, Tryz.results72, go_sem, argV, z0, z1, z2, zl]
 ·exact (below_set3_WireH HB.out _ _ _).alloc (below_set3_WireH HB.out _ _ _).size _
theorem getArg_bad (w : World) (a : Option Addr) (n c : Nat) (p : Int) (z : Nat) (N : Int) (s : List UInt8) (hs : s.length ≤ 1152921504606846976) (m : Nat) (es : List Addr) (hE : E4 w es) (hk : suchB z N s = false)
  (H : Calls Tryz.prog 115 #[.slice a n c, .int .i64 p, .int .u8 z] (wA w) fun e w' => e = .returned (.tuple #[argV z N s, .int .i64 m, .nilIface]) ∧ Below (wA w).heap.size (wA w) w') :
  Calls Tryz.prog 72 #[.slice a n c, .int .i64 p, .int .u8 z] w fun e w' => e = .returned (.tuple #[argV 0 0 [], .int .i64 0, erv es 3]) ∧ Below w.heap.size w w' := by
 have H' : Hid (Calls Tryz.prog 115 #[.slice a n c, .int .i64 p, .int .u8 z] (wA w) fun e w' => e = .returned (.tuple #[.agg #[.int .u8 z, .int .i64 N, .string ⟨s.toArray⟩], .int .i64 m, .nilIface]) ∧ w'.heap[w.heap.size]? = some (.cells #[.int .u8 0, .int .i64 0, .string ⟨#[]⟩] 34 (0, 0)) ∧ Below w.heap.size w w') := by
  refine H.mono ?_
  rintro e w' ⟨rfl, hb⟩
  exact ⟨rfl, wA_keeps hb⟩
 have HE : Hid (E4 w es) := hE
 have HK : Hid (∀ u, Below w.heap.size w u → Calls Tryz.prog 116 #[.agg #[.int .u8 z, .int .i64 N, .string ⟨s.toArray⟩], .int .u8 z] u fun e w' => e = .returned (.iface 392 (.pointer (some (es.getD 0 ⟨0, 0, none⟩)))) ∧ Below u.heap.size u w') := fun u hu => by
  refine (checkArg_any z N ⟨s.toArray⟩ (by show s.length ≤ _; exact hs) z u es (hE.below hu).arg).mono ?_
  rintro e w' ⟨rfl, hb⟩
  refine ⟨?_, hb⟩
  have e1 : okArg z N (ByteArray.mk s.toArray).data.toList z = false := by
   show (decide (z = z) && suchB z N s) = _
   rw [hk]
   simp
  rw [e1]
  rfl
 have HI : Hid (∀ u, Calls Tryz.prog 32 #[.iface 392 (.pointer (some (es.getD 0 ⟨0, 0, none⟩))), .iface 392 (.pointer (some (es.getD 0 ⟨0, 0, none⟩)))] u fun e w' => e = .returned (.bool true) ∧ w' = u) := fun u => is_same _ u
 clear H hE hk hs
 go_enter Tryz.func72, Tryz.ntmps72
 go_wp2_with fail
 refine H'.out.mono ?_
 rintro e w1 ⟨rfl, hz, hb⟩
 have HZ1 : Hid (w1.heap[w.heap.size]? = some (.cells #[.int .u8 0, .int .i64 0, .string ⟨#[]⟩] 34 (0, 0))) := hz
 have HB1 : Hid (Below w.heap.size w w1) := hb
 clear hz hb H'
 go_wp2_with fail
 have bV : Below w1.heap.size w1 (w1.alloc (.cells #[.int .u8 z, .int .i64 N, .string ⟨s.toArray⟩] 34)) := (Below.refl _ _).alloc (Nat.le_refl _) _
 have tf0 : ∀ u, Below (w1.alloc (.cells #[.int .u8 z, .int .i64 N, .string ⟨s.toArray⟩] 34)).heap.size (w1.alloc (.cells #[.int .u8 z, .int .i64 N, .string ⟨s.toArray⟩] 34)) u → u.cell? ⟨w1.heap.size, 0, none⟩ = some (.int .u8 z) := fun u hu => by rw [hu.cell (by simp)]; simp
 have tf1 : ∀ u, Below (w1.alloc (.cells #[.int .u8 z, .int .i64 N, .string ⟨s.toArray⟩] 34)).heap.size (w1.alloc (.cells #[.int .u8 z, .int .i64 N, .string ⟨s.toArray⟩] 34)) u → u.cell? ⟨w1.heap.size, 1, none⟩ = some (.int .i64 N) := fun u hu => by rw [hu.cell (by simp)]; simp
 have tf2 : ∀ u, Below (w1.alloc (.cells #[.int .u8 z, .int .i64 N, .string ⟨s.toArray⟩] 34)).heap.size (w1.alloc (.cells #[.int .u8 z, .int .i64 N, .string ⟨s.toArray⟩] 34)) u → u.cell? ⟨w1.heap.size, 2, none⟩ = some (.string ⟨s.toArray⟩) := fun u hu => by rw [hu.cell (by simp)]; simp
 have tg : ∀ u, Below (w1.alloc (.cells #[.int .u8 z, .int .i64 N, .string ⟨s.toArray⟩] 34)).heap.size (w1.alloc (.cells #[.int .u8 z, .int .i64 N, .string ⟨s.toArray⟩] 34)) u → u.cell? ⟨2, 0, none⟩ = some (.iface 392 (.pointer (some (es.getD 0 ⟨0, 0, none⟩)))) := fun u hu => (HE.out.below (Below.on HB1.out (bV.trans (hu.mono bV.size)))).arg
 have HC : Hid (∀ u, Below (w1.alloc (.cells #[.int .u8 z, .int .i64 N, .string ⟨s.toArray⟩] 34)).heap.size (w1.alloc (.cells #[.int .u8 z, .int .i64 N, .string ⟨s.toArray⟩] 34)) u → Calls Tryz.prog 116 #[.agg #[.int .u8 z, .int .i64 N, .string ⟨s.toArray⟩], .int .u8 z] u fun e w' => e = .returned (.iface 392 (.pointer (some (es.getD 0 ⟨0, 0, none⟩)))) ∧ Below u.heap.size u w') := fun u hu => HK.out u (Below.on HB1.out (bV.trans (hu.mono bV.size)))
 have HV : Hid (∀ u, Below (w1.alloc (.cells #[.int .u8 z, .int .i64 N, .string ⟨s.toArray⟩] 34)).heap.size (w1.alloc (.cells #[.int .u8 z, .int .i64 N, .string ⟨s.toArray⟩] 34)) u → u.heap[w.heap.size]? = some (.cells #[.int .u8 0, .int .i64 0, .string ⟨#[]⟩] 34 (0, 0)) ∧ Below w.heap.size w u ∧ u.cell? ⟨w1.heap.size, 0, none⟩ = some (.int .u8 z) ∧ u.cell? ⟨w1.heap.size, 1, none⟩ = some (.int .i64 N) ∧ u.cell? ⟨w1.heap.size, 2, none⟩ = some (.string ⟨s.toArray⟩) ∧ w.heap.size ≠ w1.heap.size) := fun u hu => by
  have hb := bV.trans (hu.mono bV.size)
  have hl := (Array.getElem?_eq_some_iff.1 HZ1.out).1
  exact ⟨by rw [hb.block _ hl]; exact HZ1.out, Below.on HB1.out hb, tf0 u hu, tf1 u hu, tf2 u hu, by omega⟩
 clear HK bV
 generalize w1.alloc (.cells #[.int .u8 z, .int .i64 N, .string ⟨s.toArray⟩] 34) = V at *
 refine wp_region_held_drew (S := fun x => Below V.heap.size V x) (by kernel_rfl) (Below.refl _ _).drew (fun hHeld => ?_)
 have hHeld : Below V.heap.size V V.drew := hHeld
 have bw : Below V.heap.size V V.drew := (Below.refl _ _).drew
 refine wpAnyH_take (i := 0) (v := ?_) rfl (by kernel_rfl) (by kernel_rfl) (by kernel_rfl) (fun _ _ _ h => h) (Or.inl ⟨by kernel_rfl, ?hy0⟩) (by assumption) ?_
 case hy0 => (intro w hSw; (try dsimp only at hSw); go_simp; try with_reducible rfl)
 try simp only [Act.put, List.getElem_toArray, List.getElem_cons_zero, List.setIfInBounds_toArray, List.set_cons_zero, List.set_cons_succ]
 refine wpAnyH_take (i := 1) (v := ?_) rfl (by kernel_rfl) (by kernel_rfl) (by kernel_rfl) (fun _ _ _ h => h) (Or.inl ⟨by kernel_rfl, ?hy1⟩) (by assumption) ?_
 case hy1 => (intro w hSw; (try dsimp only at hSw); go_simp; try with_reducible rfl)
 try simp only [Act.put, List.getElem_toArray, List.getElem_cons_zero, List.getElem_cons_succ, List.setIfInBounds_toArray, List.set_cons_zero, List.set_cons_succ]
 refine wpAnyH_take (i := 3) (v := ?_) rfl (by kernel_rfl) (by kernel_rfl) (by kernel_rfl) (fun _ _ _ h => h) (Or.inl ⟨by kernel_rfl, ?hy3⟩) (by assumption) ?_
 case hy3 => (intro w hSw; (try dsimp only at hSw); go_simp; try with_reducible rfl)
 try simp only [Act.put, List.getElem_toArray, List.getElem_cons_zero, List.getElem_cons_succ, List.setIfInBounds_toArray, List.set_cons_zero, List.set_cons_succ]
 refine wpAnyH_ready (rs := [2]) (by kernel_rfl) (by simp) ?_
 refine AllReadyH.cons rfl (fun K hK => ?_) AllReadyH.nil
 go_simp
 go_wp2_with fail
 refine (HC.out _ bw).mono ?_
 rintro e u2 ⟨rfl, hb⟩
 have hS' := Below.on hHeld hb
 refine hK.out _ _ hS' (fun _ => ?_)
 clear hK K
 refine wpAnyH_mono (S' := fun x => Below u2.heap.size u2 x) (fun x hx => Below.on hS' hx) ?_
 replace bw := Below.on bw hb
 replace tf0 := fun x hx => tf0 x (Below.on hS' hx)
 replace tf1 := fun x hx => tf1 x (Below.on hS' hx)
 replace tf2 := fun x hx => tf2 x (Below.on hS' hx)
 replace tg := fun x hx => tg x (Below.on hS' hx)
 clear hHeld hb hS'
 have hHeld : Below u2.heap.size u2 u2 := Below.refl _ _
 refine wpAnyH_ready (rs := [4]) (by kernel_rfl) (by simp) ?_
 refine AllReadyH.cons rfl (fun K hK => ?_) AllReadyH.nil
 go_simp
 go_wp2_with fail
 refine (HI.out _).mono ?_
 rintro e u4 ⟨rfl, rfl⟩
 refine hK.out _ _ hHeld (fun _ => ?_)
 clear hK K
 refine wpAnyH_done (by kernel_rfl) ?_ _
 obtain ⟨hz, hb, y0, y1, y2, hne⟩ := HV.out _ bw
 have z0 : u4.cell? ⟨w.heap.size, 0, none⟩ = some (.int .u8 0) := by rw [World.cell?, hz]; rfl
 have z1 : u4.cell? ⟨w.heap.size, 1, none⟩ = some (.int .i64 0) := by rw [World.cell?, hz]; rfl
 have z2 : u4.cell? ⟨w.heap.size, 2, none⟩ = some (.string ⟨#[]⟩) := by rw [World.cell?, hz]; rfl
 have zf : ∀ k, u4.frozen? ⟨w.heap.size, k, none⟩ = false := Lib.frozen_of_heap hz
 have hE2 := HE.out.below hb
 have hBy : u4.cell? ⟨4, 0, none⟩ = some (erv es 3) := hE2.bytes
 have hlb : 4 < w.heap.size := World.block_lt_of_cell? w _ HE.out.bytes
 have hn1 : ¬ 4 = w.heap.size := by omega
 have hn2 : ¬ w.heap.size = 4 := by omega
 have hcs : ∀ v, (u4.setCell ⟨w.heap.size, 0, none⟩ v).cell? ⟨4, 0, none⟩ = some (erv es 3) := fun v => by rw [World.cell?_setCell_other _ _ _ _ (fun h => hn2 (congrArg Addr.block h))]; exact hBy
 have HB : Hid (Below w.heap.size w u4) := hb
 clear hlb
 clear tf0 tf1 tf2 tg HC HI HV HE hHeld bw hz hb hE2
 go_wp2
 go_region
 all_goals
  go_wp2
  refine bodyPost_ret (v := .tuple #[argV 0 0 [], .int .i64 0, erv es 3]) ?_ rfl ⟨rfl, ?_⟩
  ·simp [results, Tryz.results72, go_sem, argV, z0, z1, z2]
  ·exact (below_set3_WireH HB.out _ _ _).drew
theorem getArg_ok (w : World) (a : Option Addr) (n c : Nat) (p : Int) (z : Nat) (N : Int) (s : List UInt8) (hs : s.length ≤ 1152921504606846976) (m : Nat) (es : List Addr) (hE : E4 w es) (hk : suchB z N s = true)
  (H : Calls Tryz.prog 115 #[.slice a n c, .int .i64 p, .int .u8 z] (wA w) fun e w' => e = .returned (.tuple #[argV z N s, .int .i64 m, .nilIface]) ∧ Below (wA w).heap.size (wA w) w') :
  Calls Tryz.prog 72 #[.slice a n c, .int .i64 p, .int .u8 z] w fun e w' => e = .returned (.tuple #[argV z N s, .int .i64 m, .nilIface]) ∧ Below w.heap.size w w' := by
 have H' : Hid (Calls Tryz.prog 115 #[.slice a n c, .int .i64 p, .int .u8 z] (wA w) fun e w' => e = .returned (.tuple #[.agg #[.int .u8 z, .int .i64 N, .string ⟨s.toArray⟩], .int .i64 m, .nilIface]) ∧ w'.heap[w.heap.size]? = some (.cells #[.int .u8 0, .int .i64 0, .string ⟨#[]⟩] 34 (0, 0)) ∧ Below w.heap.size w w') := by
  refine H.mono ?_
  rintro e w' ⟨rfl, hb⟩
  exact ⟨rfl, wA_keeps hb⟩
 have HE : Hid (E4 w es) := hE
 have HK : Hid (∀ u, Below w.heap.size w u → Calls Tryz.prog 116 #[.agg #[.int .u8 z, .int .i64 N, .string ⟨s.toArray⟩], .int .u8 z] u fun e w' => e = .returned (.nilIface) ∧ Below u.heap.size u w') := fun u hu => by
  refine (checkArg_any z N ⟨s.toArray⟩ (by show s.length ≤ _; exact hs) z u es (hE.below hu).arg).mono ?_
  rintro e w' ⟨rfl, hb⟩
  refine ⟨?_, hb⟩
  have e1 : okArg z N (ByteArray.mk s.toArray).data.toList z = true := by
   show (decide (z = z) && suchB z N s) = _
   rw [hk]
   simp
  rw [e1]
  rfl
 have HI : Hid (∀ u, Calls Tryz.prog 32 #[.nilIface, .iface 392 (.pointer (some (es.getD 0 ⟨0, 0, none⟩)))] u fun e w' => e = .returned (.bool false) ∧ w' = u) := fun u => Is_nil_WireH u _
 clear H hE hk hs
 go_enter Tryz.func72, Tryz.ntmps72
 go_wp2_with fail
 refine H'.out.mono ?_
 rintro e w1 ⟨rfl, hz, hb⟩
 have HZ1 : Hid (w1.heap[w.heap.size]? = some (.cells #[.int .u8 0, .int .i64 0, .string ⟨#[]⟩] 34 (0, 0))) := hz
 have HB1 : Hid (Below w.heap.size w w1) := hb
 clear hz hb H'
 go_wp2_with fail
 have bV : Below w1.heap.size w1 (w1.alloc (.cells #[.int .u8 z, .int .i64 N, .string ⟨s.toArray⟩] 34)) := (Below.refl _ _).alloc (Nat.le_refl _) _
 have tf0 : ∀ u, Below (w1.alloc (.cells #[.int .u8 z, .int .i64 N, .string ⟨s.toArray⟩] 34)).heap.size (w1.alloc (.cells #[.int .u8 z, .int .i64 N, .string ⟨s.toArray⟩] 34)) u → u.cell? ⟨w1.heap.size, 0, none⟩ = some (.int .u8 z) := fun u hu => by rw [hu.cell (by simp)]; simp
 have tf1 : ∀ u, Below (w1.alloc (.cells #[.int .u8 z, .int .i64 N, .string ⟨s.toArray⟩] 34)).heap.size (w1.alloc (.cells #[.int .u8 z, .int .i64 N, .string ⟨s.toArray⟩] 34)) u → u.cell? ⟨w1.heap.size, 1, none⟩ = some (.int .i64 N) := fun u hu => by rw [hu.cell (by simp)]; simp
 have tf2 : ∀ u, Below (w1.alloc (.cells #[.int .u8 z, .int .i64 N, .string ⟨s.toArray⟩] 34)).heap.size (w1.alloc (.cells #[.int .u8 z, .int .i64 N, .string ⟨s.toArray⟩] 34)) u → u.cell? ⟨w1.heap.size, 2, none⟩ = some (.string ⟨s.toArray⟩) := fun u hu => by rw [hu.cell (by simp)]; simp
 have tg : ∀ u, Below (w1.alloc (.cells #[.int .u8 z, .int .i64 N, .string ⟨s.toArray⟩] 34)).heap.size (w1.alloc (.cells #[.int .u8 z, .int .i64 N, .string ⟨s.toArray⟩] 34)) u → u.cell? ⟨2, 0, none⟩ = some (.iface 392 (.pointer (some (es.getD 0 ⟨0, 0, none⟩)))) := fun u hu => (HE.out.below (Below.on HB1.out (bV.trans (hu.mono bV.size)))).arg
 have HC : Hid (∀ u, Below (w1.alloc (.cells #[.int .u8 z, .int .i64 N, .string ⟨s.toArray⟩] 34)).heap.size (w1.alloc (.cells #[.int .u8 z, .int .i64 N, .string ⟨s.toArray⟩] 34)) u → Calls Tryz.prog 116 #[.agg #[.int .u8 z, .int .i64 N, .string ⟨s.toArray⟩], .int .u8 z] u fun e w' => e = .returned (.nilIface) ∧ Below u.heap.size u w') := fun u hu => HK.out u (Below.on HB1.out (bV.trans (hu.mono bV.size)))
 have HV : Hid (∀ u, Below (w1.alloc (.cells #[.int .u8 z, .int .i64 N, .string ⟨s.toArray⟩] 34)).heap.size (w1.alloc (.cells #[.int .u8 z, .int .i64 N, .string ⟨s.toArray⟩] 34)) u → u.heap[w.heap.size]? = some (.cells #[.int .u8 0, .int .i64 0, .string ⟨#[]⟩] 34 (0, 0)) ∧ Below w.heap.size w u ∧ u.cell? ⟨w1.heap.size, 0, none⟩ = some (.int .u8 z) ∧ u.cell? ⟨w1.heap.size, 1, none⟩ = some (.int .i64 N) ∧ u.cell? ⟨w1.heap.size, 2, none⟩ = some (.string ⟨s.toArray⟩) ∧ w.heap.size ≠ w1.heap.size) := fun u hu => by
  have hb := bV.trans (hu.mono bV.size)
  have hl := (Array.getElem?_eq_some_iff.1 HZ1.out).1
  exact ⟨by rw [hb.block _ hl]; exact HZ1.out, Below.on HB1.out hb, tf0 u hu, tf1 u hu, tf2 u hu, by omega⟩
 clear HK bV
 generalize w1.alloc (.cells #[.int .u8 z, .int .i64 N, .string ⟨s.toArray⟩] 34) = V at *
 refine wp_region_held_drew (S := fun x => Below V.heap.size V x) (by kernel_rfl) (Below.refl _ _).drew (fun hHeld => ?_)
 have hHeld : Below V.heap.size V V.drew := hHeld
 have bw : Below V.heap.size V V.drew := (Below.refl _ _).drew
 refine wpAnyH_take (i := 0) (v := ?_) rfl (by kernel_rfl) (by kernel_rfl) (by kernel_rfl) (fun _ _ _ h => h) (Or.inl ⟨by kernel_rfl, ?hy0⟩) (by assumption) ?_
 case hy0 => (intro w hSw; (try dsimp only at hSw); go_simp; try with_reducible rfl)
 try simp only [Act.put, List.getElem_toArray, List.getElem_cons_zero, List.setIfInBounds_toArray, List.set_cons_zero, List.set_cons_succ]
 refine wpAnyH_take (i := 1) (v := ?_) rfl (by kernel_rfl) (by kernel_rfl) (by kernel_rfl) (fun _ _ _ h => h) (Or.inl ⟨by kernel_rfl, ?hy1⟩) (by assumption) ?_
 case hy1 => (intro w hSw; (try dsimp only at hSw); go_simp; try with_reducible rfl)
 try simp only [Act.put, List.getElem_toArray, List.getElem_cons_zero, List.getElem_cons_succ, List.setIfInBounds_toArray, List.set_cons_zero, List.set_cons_succ]
 refine wpAnyH_take (i := 3) (v := ?_) rfl (by kernel_rfl) (by kernel_rfl) (by kernel_rfl) (fun _ _ _ h => h) (Or.inl ⟨by kernel_rfl, ?hy3⟩) (by assumption) ?_
 case hy3 => (intro w hSw; (try dsimp only at hSw); go_simp; try with_reducible rfl)
 try simp only [Act.put, List.getElem_toArray, List.getElem_cons_zero, List.getElem_cons_succ, List.setIfInBounds_toArray, List.set_cons_zero, List.set_cons_succ]
 refine wpAnyH_ready (rs := [2]) (by kernel_rfl) (by simp) ?_
 refine AllReadyH.cons rfl (fun K hK => ?_) AllReadyH.nil
 go_simp
 go_wp2_with fail
 refine (HC.out _ bw).mono ?_
 rintro e u2 ⟨rfl, hb⟩
 have hS' := Below.on hHeld hb
 refine hK.out _ _ hS' (fun _ => ?_)
 clear hK K
 refine wpAnyH_mono (S' := fun x => Below u2.heap.size u2 x) (fun x hx => Below.on hS' hx) ?_
 replace bw := Below.on bw hb
 replace tf0 := fun x hx => tf0 x (Below.on hS' hx)
 replace tf1 := fun x hx => tf1 x (Below.on hS' hx)
 replace tf2 := fun x hx => tf2 x (Below.on hS' hx)
 replace tg := fun x hx => tg x (Below.on hS' hx)
 clear hHeld hb hS'
 have hHeld : Below u2.heap.size u2 u2 := Below.refl _ _
 refine wpAnyH_ready (rs := [4]) (by kernel_rfl) (by simp) ?_
 refine AllReadyH.cons rfl (fun K hK => ?_) AllReadyH.nil
 go_simp
 go_wp2_with fail
 refine (HI.out _).mono ?_
 rintro e u4 ⟨rfl, rfl⟩
 refine hK.out _ _ hHeld (fun _ => ?_)
 clear hK K
 refine wpAnyH_done (by kernel_rfl) ?_ _
 obtain ⟨hz, hb, y0, y1, y2, hne⟩ := HV.out _ bw
 have z0 : u4.cell? ⟨w.heap.size, 0, none⟩ = some (.int .u8 0) := by rw [World.cell?, hz]; rfl
 have z1 : u4.cell? ⟨w.heap.size, 1, none⟩ = some (.int .i64 0) := by rw [World.cell?, hz]; rfl
 have z2 : u4.cell? ⟨w.heap.size, 2, none⟩ = some (.string ⟨#[]⟩) := by rw [World.cell?, hz]; rfl
 have zf : ∀ k, u4.frozen? ⟨w.heap.size, k, none⟩ = false := Lib.frozen_of_heap hz
 have hE2 := HE.out.below hb
 have hBy : u4.cell? ⟨4, 0, none⟩ = some (erv es 3) := hE2.bytes
 have hlb : 4 < w.heap.size := World.block_lt_of_cell? w _ HE.out.bytes
 have hn1 : ¬ 4 = w.heap.size := by omega
 have hn2 : ¬ w.heap.size = 4 := by omega
 have hcs : ∀ v, (u4.setCell ⟨w.heap.size, 0, none⟩ v).cell? ⟨4, 0, none⟩ = some (erv es 3) := fun v => by rw [World.cell?_setCell_other _ _ _ _ (fun h => hn2 (congrArg Addr.block h))]; exact hBy
 have HB : Hid (Below w.heap.size w u4) := hb
 clear hlb
 clear tf0 tf1 tf2 tg HC HI HV HE hHeld bw hz hb hE2
 go_wp2
 refine bodyPost_ret (v := .tuple #[argV z N s, .int .i64 m, .nilIface]) ?_ rfl ⟨rfl, ?_⟩
 ·simp [results, Tryz.results72, go_sem, argV, z0, z1, z2]
 ·exact below_set3_WireH HB.out _ _ _
end
end Go.Proofs.YtpbgbpcdohdecaaGreatDoor
