/- SigNames' walk: for every two numbers the law returns true; nothing that was there is turned. -/
import Derived.Test.YtadklnjkkmfhdaaDoorSigF
namespace Go.Proofs.YtadklnjkkmfhdaaDoor.sigNames
open Go Go.RowKit

theorem byte_at (s : List UInt8) (q : Nat) (c : UInt8) (h : s[q]? = some c) (hq : q < (⟨s.toArray⟩ : ByteArray).size) : (⟨s.toArray⟩ : ByteArray)[q] = c := by
  rw [ByteArray.getElem_eq_getElem_data]
  obtain ⟨h1, h2⟩ := List.getElem?_eq_some_iff.1 h
  simpa using h2
theorem is_n (c : UInt8) : ((c.toNat : Int) == 110) = decide (c = 110) := by
  rw [Bool.eq_iff_iff, beq_iff_eq, decide_eq_true_eq]
  constructor
  · intro h
    exact UInt8.toNat_inj.1 (by rw [show c.toNat = 110 by omega]; rfl)
  · rintro rfl
    rfl
theorem cnt_le (s : List UInt8) : cnt s ≤ s.length := List.count_le_length

theorem bon {w w1 w2 : World} (h : Hid (Below w.heap.size w w1)) (h2 : Below w1.heap.size w1 w2) : Hid (Below w.heap.size w w2) := h.out.trans (h2.mono h.out.size)

set_option maxRecDepth 100000 in
set_option maxHeartbeats 1000000 in
theorem walk (a0 a1 : Int) (w : World) (_w0 : (Lit.int .i64 a0).wf = true) (_w1 : (Lit.int .i64 a1).wf = true) (hL : laidMetH Tryd.prog Rows.sigNamesRow.laid w) :
    Calls Tryd.prog 5 #[.int .i64 a0, .int .i64 a1] w fun e w' => e = .returned (.bool true) ∧ Below w.heap.size w w' := by
  obtain ⟨a, hm⟩ := meth_of hL
  have HM : Hid (Meth w a) := hm
  clear hm hL _w0 _w1
  obtain ⟨k, hk0, hk17⟩ : ∃ k : Nat, a0 % 17 = k ∧ k < 17 := ⟨(a0 % 17).toNat, by omega, by omega⟩
  obtain ⟨o, ho0, ho6⟩ : ∃ o : Nat, a1 % 6 = o ∧ o < 6 := ⟨(a1 % 6).toNat, by omega, by omega⟩
  have HP : Hid (Calls Tryd.prog 19 #[.int .i64 a0, .int .i64 17] w fun e w' => e = .returned (.int .i64 (k : Nat)) ∧ w' = w) := by
    show Calls _ _ _ _ _
    rw [← hk0]
    exact place w a0 17 (by decide) (by decide)
  have HQ : Hid (∀ u, Calls Tryd.prog 19 #[.int .i64 a1, .int .i64 6] u fun e w' => e = .returned (.int .i64 (o : Nat)) ∧ w' = u) := by
    intro u
    rw [← ho0]
    exact place u a1 6 (by decide) (by decide)
  clear hk0 ho0
  obtain ⟨K, hK⟩ : ∃ K : Nat, K = k + 1 := ⟨_, rfl⟩
  have HF : Hid (faceOf ⟨(nmS (K : Nat)).toArray⟩ = K ∧ nmS (K : Nat) ≠ [] ∧ faceOf ⟨(nmS (K : Nat) ++ [95]).toArray⟩ = 0 ∧ (nmS (K : Nat)).length ≤ 20) := by
    show _ ∧ _
    rw [hK]
    exact names_back k hk17
  have HO : Hid (okReq K o) := okReqs K (by omega) o ho6
  have hKk : (1 : Int) + (k : Int) = (K : Int) := by omega
  have hK1 : 1 ≤ K ∧ K ≤ 17 := by omega
  clear hK
  have HN : Hid (∀ u, Calls Tryd.prog 15 #[.int .i64 K] u fun e w' => e = .returned (.string ⟨(nmS (K : Nat)).toArray⟩) ∧ Below u.heap.size u w') := Name_any K
  have HF1 : Hid (∀ u, Calls Tryd.prog 17 #[.string ⟨(nmS (K : Nat)).toArray⟩] u fun e w' => e = .returned (.int .i64 (K : Nat)) ∧ Below u.heap.size u w') := by
    intro u
    have h := Face_any ⟨(nmS (K : Nat)).toArray⟩ u
    rw [HF.out.1] at h
    exact h
  have HF2 : Hid (∀ u, Calls Tryd.prog 17 #[.string ((⟨(nmS (K : Nat)).toArray⟩ : ByteArray) ++ ⟨#[95]⟩)] u fun e w' => e = .returned (.int .i64 0) ∧ Below u.heap.size u w') := by
    intro u
    have h := Face_any ⟨(nmS (K : Nat) ++ [95]).toArray⟩ u
    rw [HF.out.2.2.1] at h
    have e : (⟨(nmS (K : Nat)).toArray⟩ : ByteArray) ++ ⟨#[95]⟩ = ⟨(nmS (K : Nat) ++ [95]).toArray⟩ := by
      apply ByteArray.ext
      simp
    rw [e]
    exact h
  have hne : ¬ nmS (K : Nat) = [] := HF.out.2.1
  have hsm : ¬ 9223372036854775807 < (nmS (K : Nat)).length + 1 := by have := HF.out.2.2.2; omega
  have hne2 : (nmS (K : Nat) == []) = false := beq_eq_false_iff_ne.2 hne
  clear HF
  generalize nmS (K : Nat) = nm at *
  go_enter Tryd.func5, Tryd.ntmps5
  go_wp2_with fail
  refine HP.out.mono ?_
  rintro e w ⟨rfl, rfl⟩
  clear HP
  have H0 : Hid (Below w.heap.size w w) := Below.refl _ _
  go_wp2_with fail
  refine (HN.out _).mono ?_
  rintro e w1 ⟨rfl, b1⟩
  have H1 := bon H0 b1
  clear H0 b1
  go_wp2_with fail
  refine (HF1.out _).mono ?_
  rintro e w2 ⟨rfl, b2⟩
  have H2 := bon H1 b2
  clear H1 b2
  go_wp2_with fail
  refine (HN.out _).mono ?_
  rintro e w3 ⟨rfl, b3⟩
  have H3 := bon H2 b3
  clear H2 b3
  go_wp2_with fail
  refine (HN.out _).mono ?_
  rintro e w4 ⟨rfl, b4⟩
  have H4 := bon H3 b4
  clear H3 b4
  go_wp2_with fail
  refine (HF2.out _).mono ?_
  rintro e w5 ⟨rfl, b5⟩
  have H5 := bon H4 b5
  clear H4 b5
  go_wp2_with fail
  refine (HQ.out _).mono ?_
  rintro e w5 ⟨rfl, rfl⟩
  clear HQ HF1 HF2 HN hne hne2 hsm
  have HR : Hid (∀ u, Meth u a → Calls Tryd.prog 8 #[.int .i64 K, .int .i64 o] u fun e w' => e = .returned (.tuple #[.string ⟨(rqS K o).toArray⟩, errv a (rqAt K o).isSome]) ∧ Below u.heap.size u w') := fun u hu => Request_any K o u a hu
  have HMk : Hid (∀ u, Calls Tryd.prog 13 #[.int .i64 K, .int .i64 o] u fun e w' => e = .returned (.int .i64 (rqM K o)) ∧ Below u.heap.size u w') := Makes_any K o
  have HEn : Hid (∀ u, Calls Tryd.prog 14 #[.int .i64 K, .int .i64 o] u fun e w' => e = .returned (.bool (rqB K o)) ∧ Below u.heap.size u w') := Ends_any K o
  have HA : Hid (∀ u, Meth u a → Calls Tryd.prog 7 #[] u fun e w' => e = .returned (.bool true) ∧ Below u.heap.size u w') := fun u hu => awake_any u a hu
  have HOk : Hid (okReq K o) := HO
  clear HO
  cases hq : rqAt K o with
  | none =>
    have e1 : rqS K o = [] := by rw [rqS, hq]; rfl
    have e2 : rqM K o = 0 := by rw [rqM, hq]; rfl
    have e3 : rqB K o = false := by rw [rqB, hq]; rfl
    rw [e1, hq] at HR
    simp only [Option.isSome_none, errv] at HR
    rw [e2] at HMk
    rw [e3] at HEn
    clear e1 e2 e3 HOk hq
    go_wp2_with fail
    refine (HR.out _ (HM.out.below H5.out)).mono ?_
    rintro e w6 ⟨rfl, b6⟩
    have H6 := bon H5 b6
    clear H5 b6
    go_wp2_with fail
    refine (HMk.out _).mono ?_
    rintro e w7 ⟨rfl, b7⟩
    have H7 := bon H6 b7
    clear H6 b7
    go_wp2_with fail
    refine (HEn.out _).mono ?_
    rintro e w8 ⟨rfl, b8⟩
    have H8 := bon H7 b8
    clear H7 b8
    go_wp2_with fail
    refine (HA.out _ (HM.out.below H8.out)).mono ?_
    rintro e w9 ⟨rfl, b9⟩
    have H9 := bon H8 b9
    clear H8 b9
    go_wp2
    go_ret
    exact ⟨rfl, H9.out⟩
  | some x =>
    obtain ⟨s, m, b⟩ := x
    have e1 : rqS K o = s := by rw [rqS, hq]; rfl
    have e2 : rqM K o = m := by rw [rqM, hq]; rfl
    have e3 : rqB K o = b := by rw [rqB, hq]; rfl
    have HS6 : Hid (s.length ≤ 6) := e1 ▸ (rqS_letters K o).1
    rw [e1, hq] at HR
    simp only [Option.isSome_some, errv] at HR
    rw [e2] at HMk
    rw [e3] at HEn
    have HOx : Hid ((b = true → s = [] ∧ (o = 0 ∨ K = 6 ∧ o = 1)) ∧ 0 ≤ m ∧ (0 < m → cnt s = 1 ∧ K ≠ 2) ∧ (m = 0 → cnt s = 0 ∨ cnt s = 1 ∧ K = 2)) := by
      have h := HOk.out
      unfold okReq at h
      rw [hq] at h
      exact h
    clear e1 e2 e3 HOk hq
    go_wp2_with fail
    refine (HR.out _ (HM.out.below H5.out)).mono ?_
    rintro e w6 ⟨rfl, b6⟩
    have H6 := bon H5 b6
    clear H5 b6 HR
    go_wp2_with fail
    go_loop [9, 10] (fun n i => ∃ q : Nat, q ≤ s.length ∧ i = .int .i64 q ∧ n = .int .i64 (cnt (s.take q) : Nat)) (fun _ i => s.length - (intOf i).toNat)
    case atStart => exact ⟨0, Nat.zero_le _, rfl, rfl⟩
    case round =>
      obtain ⟨q, hq, rfl, rfl⟩ := hrel
      by_cases hend : q = s.length
      · subst hend
        rw [List.take_length]
        obtain ⟨hO1, hO2, hO3, hO4⟩ := HOx.out
        clear HOx
        cases b with
        | true =>
          obtain ⟨rfl, hO⟩ := hO1 rfl
          obtain rfl : m = 0 := by
            rcases Int.lt_or_eq_of_le hO2 with h | h
            · exact absurd (hO3 h).1 (by decide)
            · exact h.symm
          have e0 : ((cnt [] : Nat) : Int) = 0 := rfl
          rw [e0]
          clear hO1 hO2 hO3 hO4 e0
          by_cases h0 : o = 0
          · subst h0
            go_wp2_with fail
            refine (HEn.out _).mono ?_
            rintro e w7 ⟨rfl, b7⟩
            have H7 := bon H6 b7
            clear H6 b7
            go_wp2_with fail
            refine (HMk.out _).mono ?_
            rintro e w8 ⟨rfl, b8⟩
            have H8 := bon H7 b8
            clear H7 b8
            go_wp2_with fail
            refine (HA.out _ (HM.out.below H8.out)).mono ?_
            rintro e w9 ⟨rfl, b9⟩
            have H9 := bon H8 b9
            clear H8 b9
            go_wp2
            go_ret
            exact ⟨rfl, H9.out⟩
          · obtain ⟨rfl, rfl⟩ : K = 6 ∧ o = 1 := by
              rcases hO with h | h
              · exact absurd h h0
              · exact h
            clear hO h0
            go_wp2_with fail
            refine (HEn.out _).mono ?_
            rintro e w7 ⟨rfl, b7⟩
            have H7 := bon H6 b7
            clear H6 b7
            go_wp2_with fail
            refine (HMk.out _).mono ?_
            rintro e w8 ⟨rfl, b8⟩
            have H8 := bon H7 b8
            clear H7 b8
            go_wp2_with fail
            refine (HA.out _ (HM.out.below H8.out)).mono ?_
            rintro e w9 ⟨rfl, b9⟩
            have H9 := bon H8 b9
            clear H8 b9
            go_wp2
            go_ret
            exact ⟨rfl, H9.out⟩
        | false =>
          clear hO1
          by_cases hm : 0 < m
          · have hc := (hO3 hm).1
            have hK2 : ¬ (K : Int) = 2 := by have := (hO3 hm).2; omega
            have hK2b : ((K : Int) != 2) = true := bne_iff_ne.2 hK2
            rw [hc]
            clear hO2 hO3 hO4 hc
            go_wp2_with fail
            refine (HEn.out _).mono ?_
            rintro e w7 ⟨rfl, b7⟩
            have H7 := bon H6 b7
            clear H6 b7
            go_wp2_with fail
            refine (HMk.out _).mono ?_
            rintro e w8 ⟨rfl, b8⟩
            have H8 := bon H7 b8
            clear H7 b8
            go_wp2_with fail
            refine (HA.out _ (HM.out.below H8.out)).mono ?_
            rintro e w9 ⟨rfl, b9⟩
            have H9 := bon H8 b9
            clear H8 b9
            go_wp2
            go_ret
            exact ⟨rfl, H9.out⟩
          · obtain rfl : m = 0 := by omega
            rcases hO4 rfl with hc | ⟨hc, rfl⟩
            · rw [hc]
              clear hO2 hO3 hO4 hc hm
              go_wp2_with fail
              refine (HEn.out _).mono ?_
              rintro e w7 ⟨rfl, b7⟩
              have H7 := bon H6 b7
              clear H6 b7
              go_wp2_with fail
              refine (HMk.out _).mono ?_
              rintro e w8 ⟨rfl, b8⟩
              have H8 := bon H7 b8
              clear H7 b8
              go_wp2_with fail
              refine (HA.out _ (HM.out.below H8.out)).mono ?_
              rintro e w9 ⟨rfl, b9⟩
              have H9 := bon H8 b9
              clear H8 b9
              go_wp2
              go_ret
              exact ⟨rfl, H9.out⟩
            · rw [hc]
              clear hO2 hO3 hO4 hc hm
              go_wp2_with fail
              refine (HEn.out _).mono ?_
              rintro e w7 ⟨rfl, b7⟩
              have H7 := bon H6 b7
              clear H6 b7
              go_wp2_with fail
              refine (HMk.out _).mono ?_
              rintro e w8 ⟨rfl, b8⟩
              have H8 := bon H7 b8
              clear H7 b8
              go_wp2_with fail
              refine (HA.out _ (HM.out.below H8.out)).mono ?_
              rintro e w9 ⟨rfl, b9⟩
              have H9 := bon H8 b9
              clear H8 b9
              go_wp2
              go_ret
              exact ⟨rfl, H9.out⟩
      · have hlt : (q : Int) < s.length := by omega
        obtain ⟨c, hc⟩ : ∃ c, s[q]? = some c := ⟨_, List.getElem?_eq_getElem (by omega)⟩
        have HT : Hid (cnt (s.take (q + 1)) = cnt (s.take q) + if c = 110 then 1 else 0) := cnt_take s q c hc
        have hq6 : (q : Int) < 6 := by have := HS6.out; omega
        have hb := byte_at s q c hc (by show q < s.length; omega)
        obtain ⟨n, hn, hn6⟩ : ∃ n, cnt (s.take q) = n ∧ n ≤ 6 := ⟨_, rfl, by
          have h1 := cnt_le (s.take q)
          have h2 : (s.take q).length ≤ q := List.length_take_le _ _
          omega⟩
        rw [hn] at HT ⊢
        have HC : Hid (s[q]? = some c) := hc
        clear hc hn
        have hn6' : (n : Int) ≤ 6 := by omega
        by_cases h110 : c = 110
        · have hd : ((c.toNat : Int) == 110) = true := by rw [is_n]; exact decide_eq_true h110
          have HT2 : Hid (cnt (s.take (q + 1)) = n + 1) := by have := HT.out; rw [if_pos h110] at this; exact this
          clear h110 HT
          go_wp2
          go_round
          case rel => exact ⟨q + 1, by omega, by go_num, by rw [HT2.out]; go_num⟩
          case measure => simp [intOf]; omega
        · have hd : ((c.toNat : Int) == 110) = false := by rw [is_n]; exact decide_eq_false h110
          have HT2 : Hid (cnt (s.take (q + 1)) = n) := by have := HT.out; rw [if_neg h110] at this; exact this
          clear h110 HT
          go_wp2
          go_round
          case rel => exact ⟨q + 1, by omega, by go_num, by rw [HT2.out]⟩
          case measure => simp [intOf]; omega
end Go.Proofs.YtadklnjkkmfhdaaDoor.sigNames
