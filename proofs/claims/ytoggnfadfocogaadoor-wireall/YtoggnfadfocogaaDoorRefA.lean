/- The contracts of the document's own answer for chapter 1 (tableauref01): they come to the same bytes, numbers, texts and kinds as the contracts of the program's package word. -/
import Derived.Test.YtoggnfadfocogaaDoorWordM
namespace Go.Proofs.YtoggnfadfocogaaDoor
open Go Go.RowKit

theorem rPut_any (w : World) (v : Nat) (h1 : v < 4294967296) :
    Calls Tryd.prog 24 #[.int .u32 v] w fun e w' => ∃ r, e = .returned r ∧ w'.ownsRow w.heap.size 5 1 r 4 (bc (le4 v)) ∧ Below w.heap.size w w' := by
  have hb : (v : Int) < 4294967296 := by omega
  have H4 : Hid (bc (le4 v) = [.int .u8 ((v : Int) % 256), .int .u8 ((v : Int) / 256 % 256), .int .u8 ((v : Int) / 65536 % 256), .int .u8 ((v : Int) / 16777216)]) := bc_le4 v h1
  go_enter Tryd.func24, Tryd.ntmps24
  go_wp2
  go_ret
  refine ⟨_, rfl, ?_, (Below.refl _ _).alloc (Nat.le_refl _) _⟩
  rw [H4.out]
  exact ⟨rfl, .inr ⟨w.heap.size, 4, _, rfl, Nat.le_refl _, heap_alloc_new w _, Nat.le_refl _, by decide, rfl, rfl⟩⟩

def lenS : Value → Nat
  | .slice _ n _ => n
  | _ => 0

set_option maxRecDepth 100000 in
set_option maxHeartbeats 1000000 in
theorem rput_any (w : World) (s : ByteArray) (hs : s.size ≤ 100000) :
    Calls Tryd.prog 39 #[.string s] w fun e w' => ∃ r, e = .returned r ∧ w'.ownsRow w.heap.size 5 1 r (putl s.data.toList).length (bc (putl s.data.toList)) ∧ Below w.heap.size w w' := by
  obtain ⟨i0, hi, hz0, hz1, hz2⟩ := info_parts infoU8
  have HS : Hid (s.data.toList.length = s.size) := size_toList s
  have Hput : Hid (Calls Tryd.prog 24 #[.int .u32 (s.size : Nat)] w fun e w' => ∃ r, e = .returned r ∧ w'.ownsRow w.heap.size 5 1 r 4 (bc (le4 s.size)) ∧ Below w.heap.size w w') := rPut_any w s.size (by omega)
  go_enter Tryd.func39, Tryd.ntmps39
  go_wp2_with fail
  refine Hput.out.mono ?_
  rintro e w1 ⟨r1, rfl, ho1, hb1⟩
  have hs1 := hb1.size
  go_wp2_with (at_builtin; refine wpList_append_own_src _ rfl (.tmp 7) (.tmp 8) 27 9 rfl w.heap.size 5 i0 (.int .u8 0) 1 1 Tryd.underlying27 hi hz0 hz1 hz2 rfl r1 4 _ rfl ho1 (.string s) s.size (byteCells s) rfl (Src.ofString _ Tryd.underlying9 s) (by simp only [maxLen]; omega) (fits1 (by omega)) hs1 ?_; intro v2 w2 ho2 hg2)
  have hb2 : Below w.heap.size w w2 := hb1.grown hg2 hs1 (row_lt ho1)
  rw [byteCells_eq, ← bc_append, ← HS.out] at ho2
  clear hb1 hg2 ho1 hs1
  go_loopw [3] (fun v wr => ∃ m : Nat, 4 + s.size ≤ m ∧ m ≤ 4 + (s.size + 3) / 4 * 4 ∧ wr.ownsRow w.heap.size 5 1 v m (bc ([] ++ le4 s.data.toList.length ++ s.data.toList ++ List.replicate (m - 4 - s.size) 0)) ∧ Below w.heap.size w wr)
    (fun v _ => (s.size + 3) / 4 * 4 + 4 - lenS v)
  case atStart => exact ⟨4 + s.size, by omega, by omega, by rw [HS.out] at ho2; simpa [HS.out] using ho2, hb2⟩
  case round =>
    obtain ⟨m, hk1, hk2, ho, hb⟩ := hrel
    have hsb := hb.size
    have hx := HS.out
    obtain ⟨a1, c1, rfl, _, _⟩ := rd_of_owns ho
    clear hx
    by_cases hlt : m < 4 + (s.size + 3) / 4 * 4
    · have hm : ((m : Int) % 4 != 0) = true := by rw [bne_iff_ne]; omega
      have HX : Hid (m + 1 ≤ 225000000000000) := by simp only [Hid]; omega
      have HY : Hid (m + 1 ≤ maxLen) := by simp only [Hid, maxLen]; omega
      clear ho2 hb2
      go_wp2_with (at_builtin; refine wpList_append_own_src _ rfl (.tmp 14) (.tmp 15) 27 27 rfl w.heap.size 5 i0 (.int .u8 0) 1 1 Tryd.underlying27 hi hz0 hz1 hz2 rfl _ _ _ rfl (ho.alloc _) (.slice (some ⟨wr.heap.size, 0, none⟩) 1 1) 1 [.int .u8 0] rfl (Src.ofSlice _ Tryd.underlying27 ⟨wr.heap.size, 0, none⟩ 1 1 [.int .u8 0] rfl (cell1 _ _ _) zero_one) HY.out (fits1 HX.out) (by simp; omega) ?_; intro v2 w2 ho2 hg2)
      have hb2 : Below w.heap.size w w2 := (hb.alloc hsb _).grown hg2 (by simp; omega) (row_lt ho)
      rw [putl_step, show m - 4 - s.size + 1 = m + 1 - 4 - s.size by omega] at ho2
      obtain ⟨a2, c2, rfl, _, _⟩ := rd_of_owns ho2
      clear hg2 ho hb hsb
      go_wp2
      go_roundw
      case rel => exact ⟨m + 1, by omega, by omega, ho2, hb2⟩
      case measure => simp [lenS]; omega
    · have hm : ((m : Int) % 4 != 0) = false := by rw [bne_eq_false_iff_eq]; omega
      have HK : Hid (m = 4 + (s.size + 3) / 4 * 4) := by simp only [Hid]; omega
      go_wp2
      go_ret
      refine ⟨_, rfl, ?_, hb⟩
      have e1 : putl s.data.toList = [] ++ le4 s.data.toList.length ++ s.data.toList ++ List.replicate (m - 4 - s.size) 0 := by
        rw [putl, HK.out, HS.out, List.nil_append, show 4 + (s.size + 3) / 4 * 4 - 4 - s.size = (s.size + 3) / 4 * 4 - s.size by omega]
      have e2 : (putl s.data.toList).length = m := by rw [putl_length, HS.out, HK.out]
      rw [e2, e1]
      exact ho

theorem rPutList_any (w : World) (s : ByteArray) (hs : s.size ≤ 100000) :
    Calls Tryd.prog 29 #[.string s] w fun e w' => ∃ r, e = .returned r ∧ w'.ownsRow w.heap.size 5 1 r (putl s.data.toList).length (bc (putl s.data.toList)) ∧ Below w.heap.size w w' := by
  go_enter Tryd.func29, Tryd.ntmps29
  go_wp2_with fail
  refine (rput_any w s hs).mono ?_
  rintro e w1 ⟨r1, rfl, ho1, hb1⟩
  go_wp2
  go_ret
  exact ⟨_, rfl, ho1, hb1⟩

theorem rPutText_any (w : World) (s : ByteArray) (hs : s.size ≤ 99999) :
    Calls Tryd.prog 28 #[.string s] w fun e w' => ∃ r, e = .returned r ∧ w'.ownsRow w.heap.size 5 1 r (putl (s.data.toList ++ [0])).length (bc (putl (s.data.toList ++ [0]))) ∧ Below w.heap.size w w' := by
  have H : Hid (Calls Tryd.prog 39 #[.string (s ++ ⟨#[0]⟩)] w fun e w' => ∃ r, e = .returned r ∧ w'.ownsRow w.heap.size 5 1 r (putl (s.data.toList ++ [0])).length (bc (putl (s.data.toList ++ [0]))) ∧ Below w.heap.size w w') := by
    have h := rput_any w (s ++ ⟨#[0]⟩) (by rw [ByteArray.size_append]; show s.size + 1 ≤ 100000; omega)
    have e : (s ++ (⟨#[0]⟩ : ByteArray)).data.toList = s.data.toList ++ [0] := by simp
    rw [e] at h
    exact h
  go_enter Tryd.func28, Tryd.ntmps28
  go_wp2_with fail
  refine H.out.mono ?_
  rintro e w1 ⟨r1, rfl, ho1, hb1⟩
  go_wp2
  go_ret
  exact ⟨_, rfl, ho1, hb1⟩


theorem rGet_arg (w : World) (a : Option Addr) (n c : Nat) (p : Int) (h : p < 0 ∨ (n : Int) < p) :
    Calls Tryd.prog 33 #[.slice a n c, .int .i64 p] w fun e w' => e = .returned (.tuple #[.int .u32 0, .int .i64 1]) ∧ ∃ q, w' = w.drewN q := by
  rcases h with h | h
  · go_enter Tryd.func33, Tryd.ntmps33
    go_wp2
    go_ret2
    exact ⟨rfl, 0, rfl⟩
  · have h0 : ¬ p < 0 := by omega
    go_enter Tryd.func33, Tryd.ntmps33
    go_wp2
    go_ret2
    exact ⟨rfl, 0, rfl⟩

theorem rGet_short (w : World) (a : Option Addr) (n c : Nat) (_hn : n ≤ 1152921504606846976) (p : Int) (h0 : 0 ≤ p) (hp : p ≤ n) (hs : (n : Int) - p < 4) :
    Calls Tryd.prog 33 #[.slice a n c, .int .i64 p] w fun e w' => e = .returned (.tuple #[.int .u32 0, .int .i64 2]) ∧ ∃ q, w' = w.drewN q := by
  go_enter Tryd.func33, Tryd.ntmps33
  go_wp2
  go_ret2
  exact ⟨rfl, 0, rfl⟩

set_option maxRecDepth 100000 in
theorem rGet_ok (w : World) (b off n c : Nat) (hn : n ≤ 1152921504606846976) (k : Nat) (hk : k + 4 ≤ n) (z0 z1 z2 z3 : Nat)
    (c0 : w.cell? ⟨b, off + k, none⟩ = some (.int .u8 z0)) (c1 : w.cell? ⟨b, off + (k + 1), none⟩ = some (.int .u8 z1)) (c2 : w.cell? ⟨b, off + (k + 2), none⟩ = some (.int .u8 z2)) (c3 : w.cell? ⟨b, off + (k + 3), none⟩ = some (.int .u8 z3))
    (b0 : z0 < 256) (b1 : z1 < 256) (b2 : z2 < 256) (b3 : z3 < 256) :
    Calls Tryd.prog 33 #[.slice (some ⟨b, off, none⟩) n c, .int .i64 k] w fun e w' => e = .returned (.tuple #[.int .u32 (z0 + z1 * 256 + z2 * 65536 + z3 * 16777216 : Nat), .int .i64 0]) ∧ ∃ q, w' = w.drewN q := by
  have h0 : ¬ ((k : Int) < 0) := by omega
  have h1 : ¬ ((n : Int) < k) := by omega
  have h2 : ¬ ((n : Int) - k < 4) := by omega
  have h3 : (k : Int) + 3 < n := by omega
  go_enter Tryd.func33, Tryd.ntmps33
  go_wp2
  go_quiet (fail)
  go_wp2
  go_ret2
  exact ⟨ret2 (by omega), _, rfl⟩

theorem rGet_any (w : World) (a : Option Addr) (n c : Nat) (l : List UInt8) (hr : Rd w a n c l) (hn : n ≤ 1152921504606846976) (p : Int) :
    Calls Tryd.prog 33 #[.slice a n c, .int .i64 p] w fun e w' => e = .returned (.tuple #[.int .u32 (getV l p), .int .i64 (getE l p)]) ∧ ∃ q, w' = w.drewN q := by
  have hl := hr.len
  by_cases h1 : p < 0 ∨ (l.length : Int) < p
  · have e1 : getE l p = 1 := by rw [getE, if_pos h1]
    have e2 : getV l p = 0 := by rw [getV, e1]; rfl
    rw [e1, e2]
    exact rGet_arg w a n c p (by omega)
  · by_cases h2 : (l.length : Int) - p < 4
    · have e1 : getE l p = 2 := by rw [getE, if_neg h1, if_pos h2]
      have e2 : getV l p = 0 := by rw [getV, e1]; rfl
      rw [e1, e2]
      exact rGet_short w a n c hn p (by omega) (by omega) (by omega)
    · have e1 : getE l p = 0 := by rw [getE, if_neg h1, if_neg h2]
      have e2 : getV l p = num4 l p.toNat := by rw [getV, e1]; rfl
      obtain ⟨k, rfl⟩ := Int.eq_ofNat_of_zero_le (show 0 ≤ p by omega)
      rw [e1, e2]
      obtain ⟨b, off, rfl, hb, hc⟩ := hr.plain (by omega)
      have hb : ∀ x : UInt8, x.toNat < 256 := fun x => x.toNat_lt
      exact rGet_ok w b off n c hn k (by omega) _ _ _ _ (cell_at hc k (by omega)) (cell_at hc (k + 1) (by omega)) (cell_at hc (k + 2) (by omega)) (cell_at hc (k + 3) (by omega)) (hb _) (hb _) (hb _) (hb _)
end Go.Proofs.YtoggnfadfocogaaDoor
