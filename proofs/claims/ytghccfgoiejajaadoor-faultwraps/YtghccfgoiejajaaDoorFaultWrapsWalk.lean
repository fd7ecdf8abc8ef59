/- FaultWraps' walk. -/
import Derived.Test.YtghccfgoiejajaaDoorFltO
set_option linter.unusedSimpArgs false
namespace Go.Proofs.YtghccfgoiejajaaDoor.faultWraps
open Go Go.RowKit

set_option maxRecDepth 100000 in
theorem long (a0 : Int) (s1 s2 : ByteArray) (w : World) (es : List Addr) (hA : All w es) (h : ¬ (s1.size ≤ 200 ∧ s2.size ≤ 200)) :
    Calls Tryd.prog 4 #[.int .i64 a0, .string s1, .string s2] w fun e w' => e = .returned (.bool true) ∧ Below w.heap.size w w' := by
  have HA : Hid (All w es) := hA
  clear hA
  by_cases h1 : s1.size ≤ 200
  · have g1 : ¬ (200 : Int) < s1.size := by omega
    have g2 : (200 : Int) < s2.size := by omega
    clear h h1
    go_enter Tryd.func4, Tryd.ntmps4
    go_wp2_with fail
    refine (awake_true _ es HA.out).mono ?_
    rintro e w1 ⟨rfl, hb⟩
    have B1 : Hid (Below w.heap.size w w1) := hb
    clear hb
    go_wp2
    go_ret
    exact ⟨rfl, B1.out⟩
  · have g1 : (200 : Int) < s1.size := by omega
    clear h h1
    go_enter Tryd.func4, Tryd.ntmps4
    go_wp2_with fail
    refine (awake_true _ es HA.out).mono ?_
    rintro e w1 ⟨rfl, hb⟩
    have B1 : Hid (Below w.heap.size w w1) := hb
    clear hb
    go_wp2
    go_ret
    exact ⟨rfl, B1.out⟩

theorem join (a b : List UInt8) : (⟨(a ++ b).toArray⟩ : ByteArray) = ⟨a.toArray⟩ ++ ⟨b.toArray⟩ := by
  apply ByteArray.ext
  simp

set_option maxRecDepth 100000 in
set_option maxHeartbeats 4000000 in
theorem short (a0 : Int) (s1 s2 : ByteArray) (w : World) (es : List Addr) (hA : All w es) (h1 : s1.size ≤ 200) (h2 : s2.size ≤ 200) :
    Calls Tryd.prog 4 #[.int .i64 a0, .string s1, .string s2] w fun e w' => e = .returned (.bool true) ∧ Below w.heap.size w w' := by
  obtain ⟨m, x, s, hm, hl, hp, hq⟩ := named hA a0
  have HA : Hid (All w es) := hA
  have HP : Hid (∀ w, Calls Tryd.prog 12 #[.int .i64 a0, .int .i64 16] w fun e w' => e = .returned (.int .i64 (m : Nat)) ∧ w' = w) := hp
  have HQ : Hid (∀ w, All w es → Calls Tryd.prog 9 #[.int .i64 (1 + (m : Int))] w fun e w' => e = .returned (eS x) ∧ Below w.heap.size w w') := hq
  have HX : Hid (Lst es (m + 1) x s) := hl
  have b1 : (m : Int) < 16 := by omega
  have g1 : ¬ (200 : Int) < s1.size := by omega
  have g2 : ¬ (200 : Int) < s2.size := by omega
  have HS : Hid (s1.size ≤ 200 ∧ s2.size ≤ 200 ∧ s.size ≤ 8) := by
    have h3 := words_short hl.le
    rw [← hl.text] at h3
    have h4 : s.data.toList.length = s.size := Array.length_toList
    exact ⟨h1, h2, by omega⟩
  clear hA hp hq hl hm h1 h2
  go_enter Tryd.func4, Tryd.ntmps4
  go_wp2_with fail
  refine (HP.out _).mono ?_
  rintro e w' ⟨rfl, rfl⟩
  go_wp2_with fail
  refine (HQ.out _ HA.out).mono ?_
  rintro e w1 ⟨rfl, hb⟩
  have B1 : Hid (Below w'.heap.size w' w1) := hb
  clear hb
  go_wp2_with fail
  refine (fWrap w1 es _ _ _ _ s1 (HX.out.er (HA.out.below B1.out))).mono ?_
  rintro e w2 ⟨x1, rfl, hE, hb⟩
  have B2 : Hid (Below w'.heap.size w' w2) := Below.on B1.out hb
  have E1 : Hid (Er w2 es (eW x1) (m + 1) none (s1.data.toList ++ [58, 32] ++ s.data.toList)) := hE
  clear hb hE B1
  go_wp2_with fail
  refine (fWrap w2 es _ _ _ _ s2 E1.out).mono ?_
  rintro e w3 ⟨x2, rfl, hE, hb⟩
  have B3 : Hid (Below w'.heap.size w' w3) := Below.on B2.out hb
  have E2 : Hid (Er w3 es (eW x2) (m + 1) none (s2.data.toList ++ [58, 32] ++ (s1.data.toList ++ [58, 32] ++ s.data.toList))) := hE
  clear hb hE B2 E1
  go_wp2_with fail
  refine (E2.out.ofNone (HA.out.below B3.out)).mono ?_
  rintro e w4 ⟨rfl, hb⟩
  have B4 : Hid (Below w'.heap.size w' w4) := Below.on B3.out hb
  have E3 : Hid (Er w4 es (eW x2) (m + 1) none (s2.data.toList ++ [58, 32] ++ (s1.data.toList ++ [58, 32] ++ s.data.toList))) := E2.out.stays hb
  clear hb B3 E2
  rw [ofRet]
  have mW := mErrorW
  have mE := mErrorE
  have hw1 : IntKind.i64.wrap (1 + (m : Int)) = 1 + (m : Int) := by rw [IntKind.wrap_i64]; omega
  have ht : (⟨(s2.data.toList ++ [58, 32] ++ (s1.data.toList ++ [58, 32] ++ s.data.toList)).toArray⟩ : ByteArray) = s2 ++ ⟨#[58, 32]⟩ ++ s1 ++ ⟨#[58, 32]⟩ ++ s := by
    apply ByteArray.ext
    simp
  have HT : Hid ((s2.data.toList ++ [58, 32] ++ (s1.data.toList ++ [58, 32] ++ s.data.toList)).length ≤ 100000) := by
    have h := HS.out
    have e1 : s1.data.toList.length = s1.size := Array.length_toList
    have e2 : s2.data.toList.length = s2.size := Array.length_toList
    have e3 : s.data.toList.length = s.size := Array.length_toList
    show _ ≤ _
    simp only [List.length_append, List.length_cons, List.length_nil]
    omega
  have CW : Hid (Calls Tryd.prog 52 #[.pointer (some ⟨x2, 0, none⟩)] (wZ w4) fun e w' => e = .returned (.string (s2 ++ ⟨#[58, 32]⟩ ++ s1 ++ ⟨#[58, 32]⟩ ++ s)) ∧ Below w4.heap.size w4 w') := by
    show Calls _ _ _ _ _
    rw [← ht]
    refine (errorW (wZ w4) x2 _ (E3.out.stays (wZ_below w4)).tx HT.out).mono ?_
    rintro e w' ⟨h1, h2⟩
    exact ⟨h1, Below.on (wZ_below w4) h2⟩
  clear ht HT
  go_wp2_with fail
  refine CW.out.mono ?_
  rintro e w5 ⟨rfl, hb⟩
  have B5 : Hid (Below w'.heap.size w' w5) := Below.on B4.out hb
  have E4 : Hid (∃ t, Er w5 es (eW x2) (m + 1) none t) := ⟨_, E3.out.stays hb⟩
  clear hb B4 E3 CW
  go_wp2_with fail
  refine (HX.out.error (HA.out.below B5.out)).mono ?_
  rintro e w6 ⟨rfl, rfl⟩
  have q1 : ¬ 9223372036854775807 < s2.size + 2 + s1.size + 2 + s.size := by have := HS.out; omega
  go_wp2_with fail
  refine (wrap_nil _ s1).mono ?_
  rintro e w7 ⟨rfl, rfl⟩
  go_wp2_with fail
  obtain ⟨t, hE⟩ := E4.out
  refine (HX.out.fis hE (HA.out.below B5.out)).mono ?_
  rintro e w8 ⟨rfl, hb⟩
  have B8 : Hid (Below w'.heap.size w' w8) := Below.on B5.out hb
  have E8 : Hid (Er w8 es (eW x2) (m + 1) none t) := hE.stays hb
  clear hb hE E4 B5
  have CK : Hid (Calls Tryd.prog 18 #[eW x2] w8 fun e w' => e = .returned (.int .i64 (1 + (m : Int))) ∧ Below w8.heap.size w8 w') := by
    show Calls _ _ _ _ _
    rw [show (1 + (m : Int)) = ((m + 1 : Nat) : Int) by omega]
    exact HX.out.kind E8.out (HA.out.below B8.out)
  go_wp2_with fail
  refine CK.out.mono ?_
  rintro e w9 ⟨rfl, hb⟩
  have B9 : Hid (Below w'.heap.size w' w9) := Below.on B8.out hb
  clear hb B8 E8 CK
  go_wp2_with fail
  refine (HP.out _).mono ?_
  rintro e w10 ⟨rfl, rfl⟩
  go_wp2_with fail
  refine (awake_true _ es (HA.out.below B9.out)).mono ?_
  rintro e w11 ⟨rfl, hb⟩
  have B11 : Hid (Below w'.heap.size w' w11) := Below.on B9.out hb
  clear hb
  go_wp2
  go_ret
  exact ⟨rfl, B11.out⟩

theorem walk (a0 : Int) (s1 s2 : ByteArray) (w : World) (_ : (Lit.int .i64 a0).wf = true) (_ : s1.size ≤ 140737488351232) (_ : s2.size ≤ 140737488351232) (hL : laidMetH Tryd.prog Rows.faultWrapsRow.laid w) :
    Calls Tryd.prog 4 #[.int .i64 a0, .string s1, .string s2] w fun e w' => e = .returned (.bool true) ∧ Below w.heap.size w w' := by
  obtain ⟨es, hA⟩ := all17 hL
  by_cases h : s1.size ≤ 200 ∧ s2.size ≤ 200
  · exact short a0 s1 s2 w es hA h.1 h.2
  · exact long a0 s1 s2 w es hA h
end Go.Proofs.YtghccfgoiejajaaDoor.faultWraps
