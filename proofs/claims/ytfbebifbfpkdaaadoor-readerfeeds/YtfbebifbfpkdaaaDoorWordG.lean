/- The contract of the program's word.Get: the number that stands at a place, or ErrArg, or ErrShort, for every slice of bytes and every place; nothing that was there is turned. -/
import Derived.Test.YtfbebifbfpkdaaaDoorWordA
import Derived.Test.YtfbebifbfpkdaaaDoorLibE
import Derived.Laws.BitsAllLaws
import Derived.BigQuiet
import Derived.Deep.QuietTactic
namespace Go.Proofs.YtfbebifbfpkdaaaDoor
open Go Go.RowKit

/-- The number that stands in four bytes. -/
def num4 (l : List UInt8) (i : Nat) : Nat := (l.getD i 0).toNat + (l.getD (i + 1) 0).toNat * 256 + (l.getD (i + 2) 0).toNat * 65536 + (l.getD (i + 3) 0).toNat * 16777216

def getE (l : List UInt8) (p : Int) : Nat := if p < 0 ∨ (l.length : Int) < p then 1 else if (l.length : Int) - p < 4 then 2 else 0
def getV (l : List UInt8) (p : Int) : Nat := if getE l p = 0 then num4 l p.toNat else 0

theorem get_arg (w : World) (a : Option Addr) (n c : Nat) (v1 : Value) (h1 : w.cell? ⟨0, 0, none⟩ = some v1) (p : Int) (h : p < 0 ∨ (n : Int) < p) :
    Calls Tryd.prog 22 #[.slice a n c, .int .i64 p] w fun e w' => e = .returned (.tuple #[.int .u32 0, v1]) ∧ ∃ q, w' = w.drewN q := by
  rcases h with h | h
  · go_enter Tryd.func22, Tryd.ntmps22
    go_wp2
    go_quiet (fail)
    go_wp2
    go_ret2
    exact ⟨rfl, _, rfl⟩
  · have h0 : ¬ p < 0 := by omega
    go_enter Tryd.func22, Tryd.ntmps22
    go_wp2
    go_quiet (fail)
    go_wp2
    go_ret2
    exact ⟨rfl, _, rfl⟩

theorem get_short (w : World) (a : Option Addr) (n c : Nat) (_hn : n ≤ 1152921504606846976) (v2 : Value) (h2 : w.cell? ⟨1, 0, none⟩ = some v2) (p : Int) (h0 : 0 ≤ p) (hp : p ≤ n) (hs : (n : Int) - p < 4) :
    Calls Tryd.prog 22 #[.slice a n c, .int .i64 p] w fun e w' => e = .returned (.tuple #[.int .u32 0, v2]) ∧ ∃ q, w' = w.drewN q := by
  go_enter Tryd.func22, Tryd.ntmps22
  go_wp2
  go_quiet (fail)
  go_wp2
  go_ret2
  exact ⟨rfl, _, rfl⟩

theorem or_add (i a b : Nat) (h : a < 2 ^ i) : a ||| b * 2 ^ i = a + b * 2 ^ i := by
  rw [Nat.or_comm, Nat.mul_comm, ← Nat.two_pow_add_eq_or_of_lt h b, Nat.add_comm]

theorem or4 (z0 z1 z2 z3 : Nat) (b0 : z0 < 256) (b1 : z1 < 256) (b2 : z2 < 256) (b3 : z3 < 256) :
    bits BinOp.or IntKind.u32 (bits BinOp.or IntKind.u32 (bits BinOp.or IntKind.u32 (z0 : Int) ((z1 : Int) * 256)) ((z2 : Int) * 65536)) ((z3 : Int) * 16777216) = ((z0 + z1 * 256 + z2 * 65536 + z3 * 16777216 : Nat) : Int) := by
  have e1 : bits BinOp.or IntKind.u32 (z0 : Int) ((z1 : Int) * 256) = ((z0 + z1 * 256 : Nat) : Int) := by
    rw [show ((z1 : Int) * 256) = ((z1 * 256 : Nat) : Int) by omega, u32_or_nat _ _ (by omega) (by omega), or_add 8 z0 z1 b0]
  have e2 : bits BinOp.or IntKind.u32 ((z0 + z1 * 256 : Nat) : Int) ((z2 : Int) * 65536) = ((z0 + z1 * 256 + z2 * 65536 : Nat) : Int) := by
    rw [show ((z2 : Int) * 65536) = ((z2 * 65536 : Nat) : Int) by omega, u32_or_nat _ _ (by omega) (by omega), or_add 16 _ z2 (by omega)]
  have e3 : bits BinOp.or IntKind.u32 ((z0 + z1 * 256 + z2 * 65536 : Nat) : Int) ((z3 : Int) * 16777216) = ((z0 + z1 * 256 + z2 * 65536 + z3 * 16777216 : Nat) : Int) := by
    rw [show ((z3 : Int) * 16777216) = ((z3 * 16777216 : Nat) : Int) by omega, u32_or_nat _ _ (by omega) (by omega), or_add 24 _ z3 (by omega)]
  rw [e1, e2, e3]

theorem ret2 {k : IntKind} {a b : Int} {x : Value} (h : a = b) : Ending.returned (.tuple #[.int k a, x]) = .returned (.tuple #[.int k b, x]) := by rw [h]

set_option maxRecDepth 100000 in
theorem get_ok (w : World) (b off n c : Nat) (hnc : n ≤ c) (hn : n ≤ 1152921504606846976) (k : Nat) (hk : k + 4 ≤ n) (z0 z1 z2 z3 : Nat)
    (c0 : w.cell? ⟨b, off + k, none⟩ = some (.int .u8 z0)) (c1 : w.cell? ⟨b, off + k + 1, none⟩ = some (.int .u8 z1)) (c2 : w.cell? ⟨b, off + k + 2, none⟩ = some (.int .u8 z2)) (c3 : w.cell? ⟨b, off + k + 3, none⟩ = some (.int .u8 z3))
    (b0 : z0 < 256) (b1 : z1 < 256) (b2 : z2 < 256) (b3 : z3 < 256) :
    Calls Tryd.prog 22 #[.slice (some ⟨b, off, none⟩) n c, .int .i64 k] w fun e w' => e = .returned (.tuple #[.int .u32 (z0 + z1 * 256 + z2 * 65536 + z3 * 16777216 : Nat), .nilIface]) ∧ ∃ q, w' = w.drewN q := by
  have h0 : ¬ ((k : Int) < 0) := by omega
  have h1 : ¬ ((n : Int) < k) := by omega
  have h2 : ¬ ((n : Int) - k < 4) := by omega
  go_enter Tryd.func22, Tryd.ntmps22
  go_wp2
  go_quiet (fail)
  go_wp2
  go_ret2
  exact ⟨ret2 (or4 z0 z1 z2 z3 b0 b1 b2 b3), _, rfl⟩

theorem cell_at {w : World} {b off : Nat} {l : List UInt8} (h : ∀ j (hj : j < l.length), w.cell? ⟨b, off + j, none⟩ = some (.int .u8 (l[j].toNat : Int))) (j : Nat) (hj : j < l.length) : w.cell? ⟨b, off + j, none⟩ = some (.int .u8 ((l.getD j 0).toNat : Nat)) := by
  rw [h j hj, List.getD, List.getElem?_eq_getElem hj]
  rfl

/-- The whole contract. -/
theorem get_any (w : World) (a : Option Addr) (n c : Nat) (l : List UInt8) (hr : Rd w a n c l) (hn : n ≤ 1152921504606846976) (es : List Addr) (hE : E4 w es) (p : Int) :
    Calls Tryd.prog 22 #[.slice a n c, .int .i64 p] w fun e w' => e = .returned (.tuple #[.int .u32 (getV l p), erv es (getE l p)]) ∧ ∃ q, w' = w.drewN q := by
  have hl := hr.len
  by_cases h1 : p < 0 ∨ (l.length : Int) < p
  · have e1 : getE l p = 1 := by rw [getE, if_pos h1]
    have e2 : getV l p = 0 := by rw [getV, e1]; rfl
    rw [e1, e2]
    exact get_arg w a n c _ hE.arg p (by omega)
  · by_cases h2 : (l.length : Int) - p < 4
    · have e1 : getE l p = 2 := by rw [getE, if_neg h1, if_pos h2]
      have e2 : getV l p = 0 := by rw [getV, e1]; rfl
      rw [e1, e2]
      exact get_short w a n c hn _ hE.short p (by omega) (by omega) (by omega)
    · have e1 : getE l p = 0 := by rw [getE, if_neg h1, if_neg h2]
      have e2 : getV l p = num4 l p.toNat := by rw [getV, e1]; rfl
      obtain ⟨k, rfl⟩ := Int.eq_ofNat_of_zero_le (show 0 ≤ p by omega)
      rw [e1, e2]
      obtain ⟨b, off, rfl, hb, hc⟩ := hr.plain (by omega)
      have hb : ∀ x : UInt8, x.toNat < 256 := fun x => x.toNat_lt
      exact get_ok w b off n c hr.le hn k (by omega) _ _ _ _ (cell_at hc k (by omega)) (cell_at hc (k + 1) (by omega)) (cell_at hc (k + 2) (by omega)) (cell_at hc (k + 3) (by omega)) (hb _) (hb _) (hb _) (hb _)

theorem num4_at (p r : List UInt8) (z : Nat) (hz : z < 4294967296) : num4 (p ++ (le4 z ++ r)) p.length = z := by
  have at' : ∀ i, (p ++ (le4 z ++ r)).getD (p.length + i) 0 = (le4 z ++ r).getD i 0 := fun i => by
    rw [List.getD, List.getD, List.getElem?_append_right (by omega), Nat.add_sub_cancel_left]
  have h0 := at' 0
  rw [Nat.add_zero] at h0
  rw [num4, h0, at' 1, at' 2, at' 3]
  simp only [le4, List.cons_append, List.nil_append, List.getD, List.getElem?_cons_zero, List.getElem?_cons_succ, Option.getD_some, UInt8.toNat_ofNat']
  omega

theorem getE_ok {l : List UInt8} {k : Nat} (h : k + 4 ≤ l.length) : getE l (k : Int) = 0 := by rw [getE, if_neg (by omega), if_neg (by omega)]
theorem getE_short {l : List UInt8} {k : Nat} (h : k ≤ l.length) (h' : l.length < k + 4) : getE l (k : Int) = 2 := by rw [getE, if_neg (by omega), if_pos (by omega)]
theorem getE_arg {l : List UInt8} {k : Nat} (h : l.length < k) : getE l (k : Int) = 1 := by rw [getE, if_pos (by omega)]
theorem getV_ok {l : List UInt8} {k : Nat} (h : k + 4 ≤ l.length) : getV l (k : Int) = num4 l k := by rw [getV, if_pos (getE_ok h)]; rfl
theorem getV_err {l : List UInt8} {p : Int} (h : getE l p ≠ 0) : getV l p = 0 := by rw [getV, if_neg h]
end Go.Proofs.YtfbebifbfpkdaaaDoor
