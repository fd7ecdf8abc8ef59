/- What is got is put as it was; the head of what is put. Without the program. -/
import Derived.Test.YtoggnfadfocogaaDoorWireM
import Derived.Test.YtoggnfadfocogaaDoorWireHeadsWalk
namespace Go.Proofs.YtoggnfadfocogaaDoor
open Go Go.RowKit

theorem ended_last {l : List UInt8} (h : ended l = true) : l = l.dropLast ++ [0] := by
  rw [ended, Bool.and_eq_true] at h
  obtain ⟨h1, h2⟩ := h
  have hne : l ≠ [] := by
    rintro rfl
    simp at h1
  have hl : 0 < l.length := List.length_pos_iff.2 hne
  have e := List.dropLast_concat_getLast hne
  rw [beq_iff_eq] at h2
  have hlast : l.getLast hne = 0 := by
    refine Classical.byContradiction fun hn => ?_
    by_cases hm : (0 : UInt8) ∈ l.dropLast
    · have := index_le l.dropLast hm [l.getLast hne]
      rw [e, List.length_dropLast] at this
      omega
    · have hno : (0 : UInt8) ∉ l := by
        intro hz
        rw [← e] at hz
        rcases List.mem_append.1 hz with hz | hz
        · exact hm hz
        · simp only [List.mem_cons, List.not_mem_nil, or_false] at hz
          exact hn hz.symm
      rw [index_none l hno] at h2
      omega
  rw [hlast] at e
  exact e.symm

theorem arg_back {b : List UInt8} {p z : Nat} (h : gaE b p z = 0) : pa (gaA b p z) = (b.drop p).take (gaX b p z - p) ∧ p ≤ gaX b p z := by
  obtain ⟨hr, _⟩ := gaE_zero h
  have eA : gaA b p z = ⟨z, rdN b p z, ⟨(rdS b p z).toArray⟩⟩ := by rw [gaA, if_pos h]
  have eX : gaX b p z = rdX b p z := by rw [gaX, if_pos h]
  have eT : (⟨z, rdN b p z, ⟨(rdS b p z).toArray⟩⟩ : AV).t = rdS b p z := rfl
  rw [eA, eX]
  unfold rdE at hr
  split at hr
  · rename_i hz
    obtain ⟨n1, n2⟩ := num_ne hz
    have hle := getE_le hr
    have e1 : rdN b p z = numZ z (num4 b p) := by rw [rdN, if_pos hz, getV_ok hle]
    have e2 : rdX b p z = p + 4 := by rw [rdX, if_pos hz]
    rw [pa, if_neg n1, if_neg n2, e2, e1, m32_numZ _ _ (num4_lt _ _), le4_num4 b p hle]
    exact ⟨by rw [Nat.add_sub_cancel_left], by omega⟩
  · rename_i hz
    split at hr
    · rename_i h1
      obtain ⟨hL, hE⟩ := txtE_zero hr
      have e1 : rdS b p z = (lstS b p).dropLast := by rw [rdS, if_neg hz, if_pos h1, txtS, if_pos hr]
      have e2 : rdX b p z = lstN b p := by rw [rdX, if_neg hz, if_pos h1, txtN, if_pos hr]
      have hb := lst_back b p hL
      rw [pa, if_pos h1, eT, e1, ← ended_last hE, e2]
      exact hb
    · rename_i h1
      split at hr
      · rename_i h2
        have e1 : rdS b p z = lstS b p := by rw [rdS, if_neg hz, if_neg h1, if_pos h2]
        have e2 : rdX b p z = lstN b p := by rw [rdX, if_neg hz, if_neg h1, if_pos h2]
        have hb := lst_back b p hr
        rw [pa, if_neg h1, if_pos h2, eT, e1, e2]
        exact hb
      · cases hr

theorem gets_back (b : List UInt8) : ∀ (s : List UInt8) (p : Nat), p ≤ b.length → (gets b p s).1 = 0 → pas (gets b p s).2.1 = (b.drop p).take ((gets b p s).2.2 - p) ∧ p ≤ (gets b p s).2.2 ∧ (gets b p s).2.2 ≤ b.length
  | [], p, hp, _ => by simp [gets, pas, hp]
  | z :: s, p, hp, h => by
    by_cases h0 : gaE b p z.toNat = 0
    · rw [gets, if_pos h0] at h ⊢
      obtain ⟨a1, a2⟩ := arg_back h0
      obtain ⟨i1, i2, i3⟩ := gets_back b s (gaX b p z.toNat) (gaX_le h0) h
      refine ⟨?_, by show p ≤ (gets b (gaX b p z.toNat) s).2.2; omega, i3⟩
      show pas (gaA b p z.toNat :: _) = _
      rw [pas_cons, a1, i1]
      show _ = List.take ((gets b (gaX b p z.toNat) s).2.2 - p) (List.drop p b)
      rw [show (gets b (gaX b p z.toNat) s).2.2 - p = (gaX b p z.toNat - p) + ((gets b (gaX b p z.toNat) s).2.2 - gaX b p z.toNat) by omega, List.take_add, List.drop_drop,
        show p + (gaX b p z.toNat - p) = gaX b p z.toNat by omega]
    · rw [gets, if_neg h0] at h
      exact absurd h h0

/-- What Get gets, Put puts: the same bytes. -/
theorem got_put {o q : Int} {b s : List UInt8} (hb : b.length ≤ 4088) (h : gotE o q b s = 0) : putE o q (gotL o q b s) s = 0 ∧ pas (gotL o q b s) = b := by
  have eL : gotL o q b s = (gets b 0 s).2.1 := by rw [gotL, if_pos h]
  unfold gotE at h
  split at h
  · rename_i hg; exact absurd h hg
  rename_i hg
  have hg0 : (gets b 0 s).1 = 0 := Classical.byContradiction hg
  split at h
  · cases h
  rename_i hlen
  obtain ⟨b1, b2, b3⟩ := gets_back b s 0 (Nat.zero_le _) hg0
  have hx : (gets b 0 s).2.2 = b.length := by omega
  have hp : pas (gotL o q b s) = b := by rw [eL, b1, hx, List.drop_zero, Nat.sub_zero, List.take_length]
  have hc : chk o q (gotL o q b s) s = true := by
    rw [eL]
    cases hc : chk o q (gets b 0 s).2.1 s with
    | true => rfl
    | false => rw [hc] at h; cases h
  exact ⟨by rw [putE, hc, hp, if_pos rfl, if_neg (by omega)], hp⟩

/-- Of what is put: who, and how much. -/
theorem putE_zero {o q : Int} {l : List AV} {s : List UInt8} (h : putE o q l s = 0) : chk o q l s = true ∧ (pas l).length ≤ 4088 ∧ okArgs l s = true ∧ 1 ≤ o ∧ o ≤ 4294967295 ∧ 0 ≤ q ∧ q ≤ 65535 := by
  unfold putE at h
  split at h
  · rename_i hc
    split at h
    · cases h
    · have hc' := hc
      rw [chk, Bool.and_eq_true] at hc'
      have hh : 1 ≤ o ∧ o ≤ 4294967295 ∧ 0 ≤ q ∧ q ≤ 65535 := by simpa [headOk] using hc'.1
      exact ⟨hc, by omega, hc'.2, hh⟩
  · cases h

theorem putB_eq (o q : Int) (l : List AV) : putB o q l = wireHeads.hd (m32 o) (8 + (pas l).length) q.toNat ++ pas l := by
  rw [putB, wireHeads.hd, List.append_assoc]

theorem putB_length (o q : Int) (l : List AV) : (putB o q l).length = 8 + (pas l).length := by
  rw [putB_eq, List.length_append, wireHeads.hd_length]

theorem putB_drop (o q : Int) (l : List AV) : (putB o q l).drop 8 = pas l := by
  rw [putB_eq, List.drop_append_of_le_length (by rw [wireHeads.hd_length]; decide)]
  rfl

theorem putB_head {o q : Int} {l : List AV} {s : List UInt8} (h : putE o q l s = 0) : hdE (putB o q l) = 0 ∧ ((hdO (putB o q l) : Nat) : Int) = o ∧ ((hdP (putB o q l) : Nat) : Int) = q ∧ hdS (putB o q l) = 8 + (pas l).length := by
  obtain ⟨_, h1, _, h2, h3, h4, h5⟩ := putE_zero h
  have h6 := pas_four l
  have hm := m32_cast o
  obtain ⟨_, _, t3⟩ := wireHeads.hd_at (m32 o) (8 + (pas l).length) q.toNat (pas l) (m32_lt o) (by omega) (by omega)
  obtain ⟨e0, e1, e2, e3⟩ := t3 (by omega) (by omega)
  rw [← putB_eq] at e0 e1 e2 e3
  exact ⟨e0, by rw [e1]; omega, by rw [e2]; omega, e3⟩

theorem put_got {o q : Int} {l : List AV} {s : List UInt8} (h : putE o q l s = 0) : gotE o q (pas l) s = 0 ∧ gotL o q (pas l) s = l := by
  obtain ⟨hc, _, ho, _⟩ := putE_zero h
  have hg := gets_in l s ho [] []
  rw [List.nil_append, List.append_nil, List.length_nil, Nat.zero_add] at hg
  have e0 : gotE o q (pas l) s = 0 := by
    rw [gotE, hg, if_neg (by simp), if_neg (by simp), hc]
    rfl
  exact ⟨e0, by rw [gotL, if_pos e0, hg]⟩

theorem put_more {o q : Int} {l : List AV} {s : List UInt8} (h : putE o q l s = 0) : gotE o q (pas l ++ [0, 0, 0, 0]) s = 3 := by
  obtain ⟨_, _, ho, _⟩ := putE_zero h
  have hg := gets_in l s ho [] [0, 0, 0, 0]
  rw [List.nil_append, List.length_nil, Nat.zero_add] at hg
  rw [gotE, hg, if_neg (by simp), if_pos (by rw [List.length_append]; simp)]

theorem put_cut {o q : Int} {l : List AV} {s : List UInt8} (h : putE o q l s = 0) (k : Nat) (hk : k < (pas l).length) : gotE o q ((pas l).take k) s = 2 := by
  obtain ⟨_, _, ho, _⟩ := putE_zero h
  have hg := gets_cut l s ho [] k hk
  rw [List.nil_append, List.length_nil] at hg
  rw [gotE, hg, if_pos (by decide)]
end Go.Proofs.YtoggnfadfocogaaDoor
