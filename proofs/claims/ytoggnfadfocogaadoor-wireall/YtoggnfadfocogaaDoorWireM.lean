/- Messages as bytes, without the program: what is put is got; what is cut is short; what is got is put as it was. -/
import Derived.Test.YtoggnfadfocogaaDoorWireJ
namespace Go.Proofs.YtoggnfadfocogaaDoor
open Go Go.RowKit

theorem noNum : isNum 115 = false ∧ isNum 97 = false := by decide

/-- An argument that is such: of which sort. -/
theorem such_cases {k : Nat} {n : Int} {l : List UInt8} (h : suchB k n l = true) :
    (isNum k = true ∧ l = [] ∧ ((isSg k = true ∧ -2147483648 ≤ n ∧ n ≤ 2147483647) ∨ (isSg k = false ∧ 0 ≤ n ∧ n ≤ 4294967295))) ∨ (k = 115 ∧ n = 0 ∧ l.length ≤ 200 ∧ (0 : UInt8) ∉ l) ∨ (k = 97 ∧ n = 0 ∧ l.length ≤ 200) := by
  unfold suchB at h
  split at h
  · rename_i hk
    simp at h
    refine .inl ⟨?_, h.1, .inl ⟨?_, h.2.1, h.2.2⟩⟩
    · rcases hk with rfl | rfl <;> decide
    · rcases hk with rfl | rfl <;> decide
  · split at h
    · rename_i hk
      simp at h
      subst hk
      exact .inl ⟨by decide, h.1, .inr ⟨by decide, by omega, h.2.2⟩⟩
    · split at h
      · rename_i hk
        simp at h
        refine .inl ⟨?_, h.1, .inr ⟨?_, h.2.1, h.2.2⟩⟩
        · rcases hk with rfl | rfl <;> decide
        · rcases hk with rfl | rfl <;> decide
      · split at h
        · rename_i hk
          simp at h
          exact .inr (.inl ⟨hk, h.1, h.2.1, h.2.2⟩)
        · split at h
          · rename_i hk
            simp at h
            exact .inr (.inr ⟨hk, h.1, h.2⟩)
          · cases h

theorem num_ne {k : Nat} (h : isNum k = true) : k ≠ 115 ∧ k ≠ 97 := by
  constructor
  · rintro rfl; simp [noNum] at h
  · rintro rfl; simp [noNum] at h

theorem numZ_m32 {k : Nat} {n : Int} (h : (isSg k = true ∧ -2147483648 ≤ n ∧ n ≤ 2147483647) ∨ (isSg k = false ∧ 0 ≤ n ∧ n ≤ 4294967295)) : numZ k (m32 n) = n := by
  have hc := m32_cast n
  rcases h with ⟨h, h1, h2⟩ | ⟨h, h1, h2⟩
  · rw [numZ, h, if_pos rfl, sgn]
    split <;> omega
  · rw [numZ, h, if_neg (by decide)]
    omega

theorem m32_numZ (k v : Nat) (hv : v < 4294967296) : m32 (numZ k v) = v := by
  unfold numZ sgn m32
  split
  · split <;> omega
  · omega

theorem av_eq {x : AV} {k : Nat} {n : Int} {l : List UInt8} (h1 : k = x.k) (h2 : n = x.n) (h3 : l = x.t) : (⟨k, n, ⟨l.toArray⟩⟩ : AV) = x := by
  subst h1 h2 h3
  obtain ⟨k', n', s'⟩ := x
  show (⟨k', n', ⟨s'.data.toList.toArray⟩⟩ : AV) = ⟨k', n', s'⟩
  simp

/-- What is put is got, whatever lies ahead and behind. -/
theorem arg_in (x : AV) (z : Nat) (h : okArg x.k x.n x.t z = true) (p r : List UInt8) :
    gaE (p ++ (pa x ++ r)) p.length z = 0 ∧ gaA (p ++ (pa x ++ r)) p.length z = x ∧ gaX (p ++ (pa x ++ r)) p.length z = p.length + (pa x).length := by
  rw [okArg, Bool.and_eq_true, decide_eq_true_eq] at h
  obtain ⟨rfl, hs⟩ := h
  have key : rdE (p ++ (pa x ++ r)) p.length x.k = 0 ∧ rdN (p ++ (pa x ++ r)) p.length x.k = x.n ∧ rdS (p ++ (pa x ++ r)) p.length x.k = x.t ∧ rdX (p ++ (pa x ++ r)) p.length x.k = p.length + (pa x).length := by
    rcases such_cases hs with ⟨hk, hl, hn⟩ | ⟨hk, hn, hl, h0⟩ | ⟨hk, hn, hl⟩
    · obtain ⟨n1, n2⟩ := num_ne hk
      have hp : pa x = le4 (m32 x.n) := by rw [pa, if_neg n1, if_neg n2]
      rw [hp]
      have hlen : p.length + 4 ≤ (p ++ (le4 (m32 x.n) ++ r)).length := by rw [List.length_append, List.length_append]; simp [le4]
      refine ⟨?_, ?_, ?_, ?_⟩
      · rw [rdE, hk, if_pos rfl]; exact getE_ok hlen
      · rw [rdN, hk, if_pos rfl, getV_ok hlen, num4_at _ _ _ (m32_lt _), numZ_m32 hn]
      · rw [rdS, hk, if_pos rfl, hl]
      · rw [rdX, hk, if_pos rfl]; rfl
    · have hp : pa x = putl (x.t ++ [0]) := by rw [pa, if_pos hk]
      rw [hp]
      obtain ⟨e1, e2, e3⟩ := txt_in p x.t r (by omega) h0
      rw [hk]
      exact ⟨e1, hn.symm, e2, e3⟩
    · have hp : pa x = putl x.t := by rw [pa, if_neg (by omega), if_pos hk]
      rw [hp]
      obtain ⟨e1, e2, e3⟩ := lst_in p x.t r (by omega)
      rw [hk]
      exact ⟨e1, hn.symm, e2, e3⟩
  obtain ⟨k1, k2, k3, k4⟩ := key
  have e0 : gaE (p ++ (pa x ++ r)) p.length x.k = 0 := by rw [gaE, if_neg (by rw [k1]; decide), k2, k3, hs]; rfl
  exact ⟨e0, by rw [gaA, if_pos e0]; exact av_eq rfl k2 k3, by rw [gaX, if_pos e0, k4]⟩

theorem pas_cons (x : AV) (l : List AV) : pas (x :: l) = pa x ++ pas l := rfl

theorem gets_in : ∀ (l : List AV) (s : List UInt8), okArgs l s = true → ∀ p r, gets (p ++ (pas l ++ r)) p.length s = (0, l, p.length + (pas l).length)
  | [], [], _, p, r => by simp [gets, pas]
  | x :: l, z :: s, h, p, r => by
    rw [okArgs, Bool.and_eq_true] at h
    obtain ⟨e1, e2, e3⟩ := arg_in x z.toNat h.1 p (pas l ++ r)
    have ih := gets_in l s h.2 (p ++ pa x) r
    rw [List.append_assoc, List.length_append] at ih
    rw [pas_cons, List.append_assoc, gets, if_pos e1, e2, e3, ih, List.length_append]
    simp [Nat.add_assoc]
  | [], _ :: _, h, _, _ => by cases h
  | _ :: _, [], h, _, _ => by cases h

theorem lst_cut (p s : List UInt8) (hs : s.length ≤ 4096) (k : Nat) (hk : k < (putl s).length) : lstE (p ++ (putl s).take k) p.length = 2 := by
  have hl : ((putl s).take k).length = k := by rw [List.length_take]; omega
  by_cases h4 : k < 4
  · rw [lstE, getE_short (l := p ++ (putl s).take k) (k := p.length) (by rw [List.length_append]; omega) (by rw [List.length_append, hl]; omega)]
    rfl
  · have h0 := getE_ok (l := p ++ (putl s).take k) (k := p.length) (by rw [List.length_append, hl]; omega)
    have hv := getV_ok (l := p ++ (putl s).take k) (k := p.length) (by rw [List.length_append, hl]; omega)
    have hn : num4 (p ++ (putl s).take k) p.length = s.length := by
      rw [putl, List.append_assoc, List.take_append, List.take_of_length_le (by simp [le4]; omega)]
      exact num4_at p _ _ (by omega)
    rw [putl_length] at hk
    rw [lstE, if_neg (by rw [h0]; decide), hv, hn, if_neg (by omega), if_pos (by rw [List.length_append, hl]; omega)]

theorem arg_cut (x : AV) (z : Nat) (h : okArg x.k x.n x.t z = true) (p : List UInt8) (k : Nat) (hk : k < (pa x).length) : gaE (p ++ (pa x).take k) p.length z = 2 := by
  rw [okArg, Bool.and_eq_true, decide_eq_true_eq] at h
  obtain ⟨rfl, hs⟩ := h
  have key : rdE (p ++ (pa x).take k) p.length x.k = 2 := by
    rcases such_cases hs with ⟨hn, _, _⟩ | ⟨hn, _, hl, _⟩ | ⟨hn, _, hl⟩
    · obtain ⟨n1, n2⟩ := num_ne hn
      have hp : pa x = le4 (m32 x.n) := by rw [pa, if_neg n1, if_neg n2]
      rw [hp] at hk ⊢
      have h4 : k < 4 := hk
      have hl : ((le4 (m32 x.n)).take k).length = k := by rw [List.length_take]; omega
      rw [rdE, hn, if_pos rfl]
      exact getE_short (by rw [List.length_append]; omega) (by rw [List.length_append, hl]; omega)
    · have hp : pa x = putl (x.t ++ [0]) := by rw [pa, if_pos hn]
      rw [hp] at hk ⊢
      rw [hn]
      show txtE _ _ = 2
      have := lst_cut p (x.t ++ [0]) (by rw [List.length_append]; simp; omega) k hk
      rw [txtE, this]
      rfl
    · have hp : pa x = putl x.t := by rw [pa, if_neg (by omega), if_pos hn]
      rw [hp] at hk ⊢
      rw [hn]
      exact lst_cut p x.t (by omega) k hk
  rw [gaE, key]
  rfl

theorem gets_cut : ∀ (l : List AV) (s : List UInt8), okArgs l s = true → ∀ p k, k < (pas l).length → (gets (p ++ (pas l).take k) p.length s).1 = 2
  | [], [], _, p, k, hk => by simp [pas] at hk
  | x :: l, z :: s, h, p, k, hk => by
    rw [okArgs, Bool.and_eq_true] at h
    rw [pas_cons] at hk ⊢
    rw [List.length_append] at hk
    by_cases hx : k < (pa x).length
    · have := arg_cut x z.toNat h.1 p k hx
      rw [List.take_append_of_le_length (by omega), gets, if_neg (by rw [this]; decide)]
      exact this
    · obtain ⟨e1, e2, e3⟩ := arg_in x z.toNat h.1 p ((pas l).take (k - (pa x).length))
      have ih := gets_cut l s h.2 (p ++ pa x) (k - (pa x).length) (by omega)
      rw [List.append_assoc, List.length_append] at ih
      rw [List.take_append, List.take_of_length_le (by omega), gets, if_pos e1, e3]
      exact ih
  | [], _ :: _, h, _, _, _ => by cases h
  | _ :: _, [], h, _, _, _ => by cases h

theorem pa_four (x : AV) : (pa x).length % 4 = 0 := by
  unfold pa
  split
  · rw [putl_length]; omega
  · split
    · rw [putl_length]; omega
    · simp [le4]
theorem pas_four : ∀ l : List AV, (pas l).length % 4 = 0
  | [] => rfl
  | x :: l => by
    have h1 := pa_four x
    have h2 := pas_four l
    rw [pas_cons, List.length_append]
    omega

/-! What is got is put as it was. -/
theorem u8_ofNat_mod (x : UInt8) (m : Nat) : UInt8.ofNat (x.toNat + m * 256) = x := by
  apply UInt8.toNat_inj.1
  rw [UInt8.toNat_ofNat']
  have := x.toNat_lt
  omega

theorem le4_num4 (b : List UInt8) (p : Nat) (h : p + 4 ≤ b.length) : le4 (num4 b p) = (b.drop p).take 4 := by
  have hb : ∀ x : UInt8, x.toNat < 256 := fun x => x.toNat_lt
  have h0 := hb (b.getD p 0)
  have h1 := hb (b.getD (p + 1) 0)
  have h2 := hb (b.getD (p + 2) 0)
  have h3 := hb (b.getD (p + 3) 0)
  have e : (b.drop p).take 4 = [b.getD p 0, b.getD (p + 1) 0, b.getD (p + 2) 0, b.getD (p + 3) 0] := by
    apply List.ext_getElem?
    intro i
    by_cases hi : i < 4
    · rw [List.getElem?_take_of_lt hi, List.getElem?_drop, List.getElem?_eq_getElem (by omega)]
      match i, hi with
      | 0, _ => simp [List.getD, List.getElem?_eq_getElem (show p < b.length by omega)]
      | 1, _ => simp [List.getD, List.getElem?_eq_getElem (show p + 1 < b.length by omega)]
      | 2, _ => simp [List.getD, List.getElem?_eq_getElem (show p + 2 < b.length by omega)]
      | 3, _ => simp [List.getD, List.getElem?_eq_getElem (show p + 3 < b.length by omega)]
    · rw [List.getElem?_eq_none (by rw [List.length_take]; omega), List.getElem?_eq_none (by simp; omega)]
  rw [e]
  have one : ∀ (x : UInt8) (n : Nat), n % 256 = x.toNat → UInt8.ofNat n = x := fun x n hn => UInt8.toNat_inj.1 (by rw [UInt8.toNat_ofNat']; exact hn)
  unfold le4 num4
  rw [one (b.getD p 0) _ (by omega), one (b.getD (p + 1) 0) _ (by omega), one (b.getD (p + 2) 0) _ (by omega), one (b.getD (p + 3) 0) _ (by omega)]

theorem lst_back (b : List UInt8) (p : Nat) (h : lstE b p = 0) : putl (lstS b p) = (b.drop p).take (lstN b p - p) ∧ p ≤ lstN b p := by
  have hN : lstN b p = p + 4 + (getV b p + 3) / 4 * 4 := by rw [lstN, if_pos h, Int.toNat_natCast]
  have hS : lstS b p = (b.drop (p + 4)).take (getV b p) := by rw [lstS, if_pos h, Int.toNat_natCast]
  have hle := lstN_le h
  have h' := h
  unfold lstE at h'
  split at h'
  · rename_i hg; exact absurd h' hg
  rename_i hg
  have hg0 : getE b p = 0 := Classical.byContradiction hg
  have h4 := getE_le hg0
  split at h'
  · cases h'
  split at h'
  · cases h'
  split at h'
  · rename_i hz
    have hv : num4 b p = getV b p := (getV_ok (by omega)).symm
    have hlen : (lstS b p).length = getV b p := by rw [hS, List.length_take, List.length_drop]; omega
    have hle4 : le4 (getV b p) = (b.drop p).take 4 := by rw [← hv]; exact le4_num4 b p (by omega)
    refine ⟨?_, by omega⟩
    rw [putl, hlen, hle4, hS, hN]
    generalize getV b p = v at *
    have hf : v ≤ (v + 3) / 4 * 4 := by omega
    generalize hm : (v + 3) / 4 * 4 - v = m at *
    have e1 : p + 4 + (v + 3) / 4 * 4 - p = 4 + (v + m) := by omega
    have e2 : List.replicate m 0 = ((b.drop (p + 4)).drop v).take m := by
      apply List.ext_getElem?
      intro i
      by_cases hi : i < m
      · have hlt : p + 4 + v + i < b.length := by omega
        have := hz i hi
        rw [Int.toNat_natCast, List.getD, List.getElem?_eq_getElem hlt, Option.getD_some] at this
        rw [List.getElem?_replicate, if_pos hi, List.getElem?_take_of_lt hi, List.drop_drop, List.getElem?_drop, List.getElem?_eq_getElem hlt, this]
      · rw [List.getElem?_replicate, if_neg hi, List.getElem?_eq_none (by rw [List.length_take]; omega)]
    rw [e1, e2, List.take_add, List.take_add, List.append_assoc, List.drop_drop (i := 4)]
  · cases h'
end Go.Proofs.YtoggnfadfocogaaDoor
