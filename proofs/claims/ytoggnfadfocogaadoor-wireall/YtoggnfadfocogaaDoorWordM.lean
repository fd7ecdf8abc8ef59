/- Lists and texts as bytes, without a program: what is put is got; what is cut is short; a byte 0 ahead of the last one. -/
import Derived.Test.YtoggnfadfocogaaDoorWordT
namespace Go.Proofs.YtoggnfadfocogaaDoor
open Go Go.RowKit

theorem putl_length (s : List UInt8) : (putl s).length = 4 + (s.length + 3) / 4 * 4 := by
  simp only [putl, List.length_append, List.length_replicate, le4, List.length_cons, List.length_nil]
  omega

theorem getE_in (p s r : List UInt8) : getE (p ++ (putl s ++ r)) (p.length : Int) = 0 :=
  getE_ok (by rw [List.length_append, List.length_append, putl_length]; omega)

theorem getV_in (p s r : List UInt8) (hs : s.length < 4294967296) : getV (p ++ (putl s ++ r)) (p.length : Int) = s.length := by
  rw [getV_ok (by rw [List.length_append, List.length_append, putl_length]; omega), putl, List.append_assoc, List.append_assoc]
  exact num4_at _ _ _ hs

theorem drop_in (p s r : List UInt8) : (p ++ (putl s ++ r)).drop (p.length + 4) = s ++ (List.replicate ((s.length + 3) / 4 * 4 - s.length) 0 ++ r) := by
  rw [← List.drop_drop, List.drop_left, putl, List.append_assoc, List.append_assoc]
  show (le4 s.length ++ _).drop 4 = _
  rw [List.drop_append_of_le_length (by simp [le4])]
  simp [le4]

/-- What is put is got, whatever lies ahead and behind. -/
theorem lst_in (p s r : List UInt8) (hs : s.length ≤ 4096) :
    lstE (p ++ (putl s ++ r)) (p.length : Int) = 0 ∧ lstS (p ++ (putl s ++ r)) (p.length : Int) = s ∧ lstN (p ++ (putl s ++ r)) (p.length : Int) = p.length + (putl s).length := by
  have hv := getV_in p s r (by omega)
  have e1 : lstE (p ++ (putl s ++ r)) (p.length : Int) = 0 := by
    rw [lstE, if_neg (by rw [getE_in]; decide), hv, if_neg (by omega), if_neg (by rw [List.length_append, List.length_append, putl_length]; omega), if_pos]
    intro j hj
    have hd := drop_in p s r
    rw [Int.toNat_natCast, show p.length + 4 + s.length + j = p.length + 4 + (s.length + j) by omega, List.getD, ← List.getElem?_drop, hd, List.getElem?_append_right (by omega), Nat.add_sub_cancel_left,
      List.getElem?_append_left (by rw [List.length_replicate]; exact hj), List.getElem?_replicate, if_pos hj]
    rfl
  refine ⟨e1, ?_, ?_⟩
  · rw [lstS, if_pos e1, Int.toNat_natCast, drop_in, hv, List.take_left]
  · rw [lstN, if_pos e1, Int.toNat_natCast, hv, putl_length]
    omega

theorem index_append (s t : List UInt8) (h : (0 : UInt8) ∉ s) : Lib.indexByte (s ++ (0 :: t)) 0 = s.length := by
  induction s with
  | nil => rfl
  | cons b s ih =>
    have hb : (b == (0 : UInt8)) = false := beq_eq_false_iff_ne.2 fun e => h (by rw [e]; exact List.mem_cons_self ..)
    rw [List.cons_append, Lib.indexByte, hb, ih (fun hm => h (List.mem_cons_of_mem _ hm)), List.length_cons, if_neg (by decide), if_neg (by rw [beq_iff_eq]; omega)]
    omega

theorem index_le (s : List UInt8) (h : (0 : UInt8) ∈ s) (t : List UInt8) : 0 ≤ Lib.indexByte (s ++ t) 0 ∧ Lib.indexByte (s ++ t) 0 < s.length := by
  induction s with
  | nil => cases h
  | cons b s ih =>
    by_cases hb : (b == (0 : UInt8)) = true
    · rw [List.cons_append, Lib.indexByte, hb, if_pos rfl, List.length_cons]
      omega
    · have hb' : (b == (0 : UInt8)) = false := by simpa using hb
      have hm : (0 : UInt8) ∈ s := by
        rcases List.mem_cons.1 h with e | e
        · rw [← e] at hb'; cases hb'
        · exact e
      have := ih hm
      rw [List.cons_append, Lib.indexByte, hb', if_neg (by decide), if_neg (by rw [beq_iff_eq]; omega), List.length_cons]
      omega

theorem ended_ok (s : List UInt8) (h : (0 : UInt8) ∉ s) : ended (s ++ [0]) = true := by
  have e : (s ++ [0]).isEmpty = false := by cases s <;> rfl
  rw [ended, e, index_append s [] h, List.length_append]
  simp

theorem ended_no (s t : List UInt8) (h : (0 : UInt8) ∈ s) (ht : 0 < t.length) : ended (s ++ t) = false := by
  have := index_le s h t
  rw [ended, List.length_append]
  have e : (Lib.indexByte (s ++ t) 0 == ((s.length + t.length : Nat) : Int) - 1) = false := beq_eq_false_iff_ne.2 (by omega)
  rw [e, Bool.and_false]

/-- A text without a byte 0 is got. -/
theorem txt_in (p s r : List UInt8) (hs : s.length ≤ 4095) (h0 : (0 : UInt8) ∉ s) :
    txtE (p ++ (putl (s ++ [0]) ++ r)) (p.length : Int) = 0 ∧ txtS (p ++ (putl (s ++ [0]) ++ r)) (p.length : Int) = s ∧ txtN (p ++ (putl (s ++ [0]) ++ r)) (p.length : Int) = p.length + (putl (s ++ [0])).length := by
  obtain ⟨e1, e2, e3⟩ := lst_in p (s ++ [0]) r (by rw [List.length_append]; simp; omega)
  have f1 : txtE (p ++ (putl (s ++ [0]) ++ r)) (p.length : Int) = 0 := by rw [txtE, if_neg (by rw [e1]; decide), e2, ended_ok s h0]; rfl
  refine ⟨f1, ?_, ?_⟩
  · rw [txtS, if_pos f1, e2, List.dropLast_concat]
  · rw [txtN, if_pos f1, e3]

/-- What is cut is short. -/
theorem txt_cut (s : List UInt8) (hs : s.length ≤ 4096) (k : Nat) (hk : k < (putl s).length) : txtE ((putl s).take k) 0 = 2 := by
  have hl : ((putl s).take k).length = k := by rw [List.length_take]; omega
  have e : lstE ((putl s).take k) 0 = 2 := by
    by_cases h4 : k < 4
    · have := getE_short (l := (putl s).take k) (k := 0) (by omega) (by omega)
      rw [show ((0 : Nat) : Int) = 0 from rfl] at this
      rw [lstE, this]
      rfl
    · have h0 := getE_ok (l := (putl s).take k) (k := 0) (by omega)
      have hv := getV_ok (l := (putl s).take k) (k := 0) (by omega)
      have hn : num4 ((putl s).take k) 0 = s.length := by
        rw [putl, List.append_assoc, List.take_append, List.take_of_length_le (by simp [le4]; omega)]
        exact num4_at [] _ _ (by omega)
      rw [show ((0 : Nat) : Int) = 0 from rfl] at h0 hv
      rw [putl_length] at hk
      rw [lstE, if_neg (by rw [h0]; decide), hv, hn, if_neg (by omega), if_pos (by rw [hl]; omega)]
  rw [txtE, e]
  rfl
end Go.Proofs.YtoggnfadfocogaaDoor
