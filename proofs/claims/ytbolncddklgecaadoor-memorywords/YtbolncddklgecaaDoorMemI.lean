/- Numbers as four bytes each, one behind the other; no walk. -/
import Derived.Test.YtbolncddklgecaaDoorMemG
namespace Go.Proofs.YtbolncddklgecaaDoor
open Go Go.RowKit

def w4 (z : Nat) : List UInt8 := [UInt8.ofNat (z % 256), UInt8.ofNat (z / 256 % 256), UInt8.ofNat (z / 65536 % 256), UInt8.ofNat (z / 16777216 % 256)]
def enc (zs : List Nat) : List UInt8 := zs.flatMap w4
theorem w4_length (z : Nat) : (w4 z).length = 4 := rfl
theorem enc_cons (z : Nat) (zs : List Nat) : enc (z :: zs) = w4 z ++ enc zs := by simp [enc]
theorem enc_append (a b : List Nat) : enc (a ++ b) = enc a ++ enc b := by simp [enc]
theorem enc_length (zs : List Nat) : (enc zs).length = 4 * zs.length := by
  induction zs with
  | nil => rfl
  | cons z zs ih => rw [enc_cons, List.length_append, ih, w4_length, List.length_cons]; omega

/-- Byte r of a number. -/
def dg (z r : Nat) : Nat := z / 256 ^ r % 256

theorem w4_get (z r : Nat) (hr : r < 4) : ((w4 z).getD r 0).toNat = dg z r := by
  match r, hr with
  | 0, _ => simp [w4, dg]
  | 1, _ => simp [w4, dg]
  | 2, _ => simp [w4, dg]
  | 3, _ => simp [w4, dg]

theorem enc_get : ∀ (zs : List Nat) (i r : Nat), r < 4 → i < zs.length → ((enc zs).getD (4 * i + r) 0).toNat = dg (zs.getD i 0) r
  | [], _, _, _, h => by simp at h
  | z :: zs, 0, r, hr, _ => by
    rw [enc_cons, List.getD, List.getElem?_append_left (by rw [w4_length]; omega), Nat.mul_zero, Nat.zero_add, ← List.getD]
    exact w4_get z r hr
  | z :: zs, i + 1, r, hr, h => by
    rw [enc_cons, List.getD, List.getElem?_append_right (by rw [w4_length]; omega), w4_length, show 4 * (i + 1) + r - 4 = 4 * i + r by omega, ← List.getD]
    rw [enc_get zs i r hr (by simpa using h)]
    rfl

theorem bt_enc (zs : List Nat) (i r : Nat) (hr : r < 4) (hi : i < zs.length) : bt (enc zs) ((4 * i + r : Nat) : Int) = dg (zs.getD i 0) r := by
  rw [bt, if_neg (by omega), Int.toNat_natCast]
  exact enc_get zs i r hr hi
theorem bt_end (zs : List Nat) (k : Nat) (h : 4 * zs.length ≤ k) : bt (enc zs) (k : Int) = 0 := bt_far _ _ (by rw [enc_length]; omega)

theorem dg_all (z : Nat) (h : z < 4294967296) : dg z 0 + dg z 1 * 256 + dg z 2 * 65536 + dg z 3 * 16777216 = z := by
  simp only [dg, Nat.pow_zero, Nat.div_one, Nat.pow_one, show (256 : Nat) ^ 2 = 65536 from rfl, show (256 : Nat) ^ 3 = 16777216 from rfl]
  omega
theorem dg_hi (z : Nat) (h : z < 4294967296) : dg z 2 + dg z 3 * 256 = z / 65536 := by
  simp only [dg, show (256 : Nat) ^ 2 = 65536 from rfl, show (256 : Nat) ^ 3 = 16777216 from rfl]
  omega
theorem dg_lo (z : Nat) : dg z 0 * 65536 + dg z 1 * 16777216 = z % 65536 * 65536 := by
  simp only [dg, Nat.pow_zero, Nat.div_one, Nat.pow_one]
  omega

theorem wd_enc (zs : List Nat) (i : Nat) (hi : i < zs.length) (h : zs.getD i 0 < 4294967296) : wd (enc zs) (4 * (i : Int)) = zs.getD i 0 := by
  have e0 := bt_enc zs i 0 (by omega) hi
  have e1 := bt_enc zs i 1 (by omega) hi
  have e2 := bt_enc zs i 2 (by omega) hi
  have e3 := bt_enc zs i 3 (by omega) hi
  rw [show ((4 * i + 0 : Nat) : Int) = 4 * (i : Int) by omega] at e0
  rw [show ((4 * i + 1 : Nat) : Int) = 4 * (i : Int) + 1 by omega] at e1
  rw [show ((4 * i + 2 : Nat) : Int) = 4 * (i : Int) + 2 by omega] at e2
  rw [show ((4 * i + 3 : Nat) : Int) = 4 * (i : Int) + 3 by omega] at e3
  rw [wd, e0, e1, e2, e3]
  exact dg_all _ h
theorem wd_half (zs : List Nat) (i : Nat) (hi : i < zs.length) (h : zs.getD i 0 < 4294967296) : wd (enc zs) (4 * (i : Int) + 2) = zs.getD i 0 / 65536 + (if i + 1 < zs.length then zs.getD (i + 1) 0 % 65536 * 65536 else 0) := by
  have e2 := bt_enc zs i 2 (by omega) hi
  have e3 := bt_enc zs i 3 (by omega) hi
  rw [show ((4 * i + 2 : Nat) : Int) = 4 * (i : Int) + 2 by omega] at e2
  rw [show ((4 * i + 3 : Nat) : Int) = 4 * (i : Int) + 2 + 1 by omega] at e3
  rw [wd, e2, e3, ← dg_hi _ h, Nat.add_assoc]
  congr 1
  split
  · rename_i h2
    have f0 := bt_enc zs (i + 1) 0 (by omega) h2
    have f1 := bt_enc zs (i + 1) 1 (by omega) h2
    rw [show ((4 * (i + 1) + 0 : Nat) : Int) = 4 * (i : Int) + 2 + 2 by omega] at f0
    rw [show ((4 * (i + 1) + 1 : Nat) : Int) = 4 * (i : Int) + 2 + 3 by omega] at f1
    rw [f0, f1]
    exact dg_lo _
  · have f0 := bt_end zs (4 * i + 4) (by omega)
    have f1 := bt_end zs (4 * i + 5) (by omega)
    rw [show ((4 * i + 4 : Nat) : Int) = 4 * (i : Int) + 2 + 2 by omega] at f0
    rw [show ((4 * i + 5 : Nat) : Int) = 4 * (i : Int) + 2 + 3 by omega] at f1
    rw [f0, f1]
theorem wd_ahead (zs : List Nat) (h : 0 < zs.length) : wd (enc zs) (-2) = zs.getD 0 0 % 65536 * 65536 := by
  have e0 := bt_enc zs 0 0 (by omega) h
  have e1 := bt_enc zs 0 1 (by omega) h
  have f0 : bt (enc zs) (-2) = 0 := rfl
  have f1 : bt (enc zs) (-2 + 1) = 0 := rfl
  rw [wd, f0, f1, show (-2 + 2 : Int) = ((4 * 0 + 0 : Nat) : Int) from rfl, show (-2 + 3 : Int) = ((4 * 0 + 1 : Nat) : Int) from rfl, e0, e1, Nat.zero_mul, Nat.zero_add]
  exact dg_lo _

/-- The first i are written, of n. -/
def wr4 (zs : List Nat) (i : Nat) : List UInt8 := enc (zs.take i) ++ List.replicate (4 * (zs.length - i)) 0
theorem wr4_length (zs : List Nat) (i : Nat) (hi : i ≤ zs.length) : (wr4 zs i).length = 4 * zs.length := by
  rw [wr4, List.length_append, enc_length, List.length_take, List.length_replicate]
  omega
theorem wr4_next (zs : List Nat) (i : Nat) (hi : i < zs.length) : wro (wr4 zs i) (4 * i) (w4 (zs.getD i 0)) = wr4 zs (i + 1) := by
  have hl : (enc (zs.take i)).length = 4 * i := by rw [enc_length, List.length_take]; omega
  have e : zs.take (i + 1) = zs.take i ++ [zs.getD i 0] := by
    rw [List.take_add_one, List.getD, List.getElem?_eq_getElem hi]
    rfl
  rw [wro, w4_length, wr4, wr4, e, enc_append, List.take_append_of_le_length (by omega), List.take_of_length_le (by omega), List.drop_append, List.drop_eq_nil_of_le (by omega), hl, List.nil_append, List.drop_replicate, enc_cons]
  rw [show enc [] = [] from rfl, List.append_nil]
  congr 2
  omega
theorem wr4_all (zs : List Nat) : wr4 zs zs.length = enc zs := by
  rw [wr4, List.take_of_length_le (Nat.le_refl _), Nat.sub_self]
  exact List.append_nil _
theorem wr4_none (zs : List Nat) : wr4 zs 0 = rsz [] (4 * zs.length) := by
  rw [wr4, rsz, List.take_zero, List.take_nil, List.length_nil, Nat.sub_zero, Nat.sub_zero]
  rfl

/-- A literal of four bytes. -/
theorem rd_w4 (w : World) (z : Nat) (b0 b1 b2 b3 : Int) (h0 : b0 = dg z 0) (h1 : b1 = dg z 1) (h2 : b2 = dg z 2) (h3 : b3 = dg z 3) (e : TypeId) (fr : Nat × Nat) : Rd (w.alloc (.cells #[.int .u8 b0, .int .u8 b1, .int .u8 b2, .int .u8 b3] e fr)) (some ⟨w.heap.size, 0, none⟩) 4 4 (w4 z) := by
  refine rd_lit w (w4 z) _ ?_ e fr (show 4 ≤ maxLen by decide)
  subst h0 h1 h2 h3
  simp [bc, w4, dg]
end Go.Proofs.YtbolncddklgecaaDoor
