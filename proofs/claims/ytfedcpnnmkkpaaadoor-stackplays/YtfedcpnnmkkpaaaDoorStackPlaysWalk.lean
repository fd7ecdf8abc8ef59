/- StackPlays: for every slice of numbers and every number the call returns true; nothing that was there has turned. -/
import Derived.Test.YtfedcpnnmkkpaaaDoorStkE
import Derived.Test.YtfedcpnnmkkpaaaDoorOrdG
import Derived.LaidMore
import Derived.Deep.CutBlock
import Derived.Deep.DeepCutAuto
namespace Go.Proofs.YtfedcpnnmkkpaaaDoor.stackPlays
open Go Go.RowKit

/-- The program's stack and the document's list, both m. -/
structure Two (w wr : World) (g : Nat) (m : List Int) (v : Value) : Prop where
  kw : Kw w wr g m
  nd : m.Nodup
  ex : ∃ a c, v = .slice a m.length c ∧ Rz wr a m.length c m
theorem owz_two {w wr w' : World} {g : Nat} {m : List Int} {v : Value} (hk : Kw w wr g m) (hn : m.Nodup) (ho : OwZ wr w' v m) : Two w w' g m v := by
  obtain ⟨a, c, rfl, hr, _⟩ := ho.rd
  exact ⟨hk.on ho.bel, hn, a, c, rfl, hr⟩

theorem wfi {z : Int} (h : (Lit.int .i64 z).wf = true) : -9223372036854775808 ≤ z ∧ z ≤ 9223372036854775807 := by simpa [Lit.wf, IntKind.min, IntKind.max, IntKind.signed, IntKind.bits] using h

set_option maxRecDepth 100000 in
set_option maxHeartbeats 2000000 in
theorem core (a : Option Addr) (n c : Nat) (l : List Int) (id : Int) (hz : ∀ z ∈ l, (Lit.int .i64 z).wf = true) (w : World) (h : Rz w a n c l) (q : Addr) (hp : Pl w q) :
    Calls Tryd.prog 3 #[.slice a n c, .int .i64 id] w fun e w' => e = .returned (.bool true) ∧ Below w.heap.size w w' := by
  have hs := h.small
  have HP := hid hp
  have HR := hid h
  have HZ := hid hz
  clear hp h hz
  go_enter Tryd.func3, Tryd.ntmps3
  go_wp2_with fail
  refine (kwnew w).mono ?_
  rintro e w1 ⟨rfl, h1⟩
  generalize w.heap.size = g at *
  have H1 : Hid (Two w w1 g [] (.slice none 0 0)) := ⟨h1, List.nodup_nil, none, 0, rfl, Rz.nil _⟩
  clear h1
  go_wp2
  go_loopw [6, 7] (fun v i wr => ∃ (j : Nat) (m : List Int), i = .int .i64 j ∧ j ≤ n ∧ j ≤ 80 ∧ Two w wr g m v ∧ m.length ≤ j) (fun _ i _ => n - (numOf i).toNat)
  case atStart => exact ⟨0, [], rfl, by omega, by omega, H1.out, by simp⟩
  case round =>
    obtain ⟨j, m, rfl, hj, hj80, ht, hml⟩ := hrel
    clear H1
    by_cases hgo : j < n ∧ j < 80
    · obtain ⟨hgo1, hgo2⟩ := hgo
      have e1 : decide ((j : Int) < (n : Int)) = true := decide_eq_true (by omega)
      have e2 : decide ((j : Int) < 80) = true := decide_eq_true (by omega)
      have e3 : (j : Int) < (n : Int) := by omega
      obtain ⟨bl, off, x, rfl, hbl, hx, c0⟩ := (HR.out.on ht.kw.bel).at_ hgo1
      have hxr := wfi (HZ.out x (List.mem_of_getElem? hx))
      obtain ⟨av, cv, rfl, hrv⟩ := ht.ex
      have HK := hid ht.kw
      have HND := hid ht.nd
      have HRV := hid hrv
      clear ht hrv hx
      obtain ⟨L, hL⟩ : ∃ L, L = m.length := ⟨_, rfl⟩
      rw [← hL] at HRV hml ⊢
      have HL := hid hL
      clear hL
      go_upto_if 28 with fail
      go_cut [6] (fun v wc => ∃ m' : List Int, Two w wc g m' v ∧ m'.length ≤ j + 1)
      case first =>
        by_cases hx0 : 0 ≤ x
        · have e4 : decide ((0 : Int) ≤ x) = true := decide_eq_true hx0
          have hrl := rse_length m x
          rw [← HL.out] at hrl
          clear c0
          go_wp2_with fail
          refine (HK.out.raise (by rw [← HL.out]; omega) x HP.out).mono ?_
          rintro e w2 ⟨⟨r, rfl⟩, hk2, hkp⟩
          have HT := hid (otopr_any _ _ _ _ x _ (HK.out.rz hkp HRV.out) (by omega))
          have HK2 := hid hk2
          clear hk2 hkp HK HRV
          go_wp2_with fail
          refine HT.out.mono ?_
          rintro e w3 ⟨v3, rfl, ho3⟩
          have HT3 : Hid (∃ m' : List Int, Two w w3 g m' v3 ∧ m'.length ≤ j + 1) := ⟨_, owz_two HK2.out (rse_nodup HND.out) ho3, by omega⟩
          clear ho3 HT HK2
          go_wp2
          go_meet
          exact HT3.out
        · have e4 : decide ((0 : Int) ≤ x) = false := decide_eq_false hx0
          obtain ⟨k, hk⟩ : ∃ k : Int, k = -1 - x := ⟨_, rfl⟩
          have hrl := dr_length k m
          rw [← HL.out] at hrl
          clear c0
          go_wp2_with fail
          rw [← hk]
          refine (HK.out.drop k HP.out).mono ?_
          rintro e w2 ⟨⟨r, rfl⟩, hk2, hkp⟩
          have HT := hid (odropr_any _ _ _ _ k _ (HK.out.rz hkp HRV.out) (by omega))
          have HK2 := hid hk2
          clear hk2 hkp HK HRV
          go_wp2_with fail
          rw [← hk]
          refine HT.out.mono ?_
          rintro e w3 ⟨v3, rfl, ho3⟩
          have HT3 : Hid (∃ m' : List Int, Two w w3 g m' v3 ∧ m'.length ≤ j + 1) := ⟨_, owz_two HK2.out (dr_nodup HND.out) ho3, by omega⟩
          clear ho3 HT HK2
          go_wp2
          go_meet
          exact HT3.out
      case rest =>
        clear HK HRV HL HND hml c0
        obtain ⟨m', ht, hml⟩ := hcut
        obtain ⟨av', cv', rfl, hrv⟩ := ht.ex
        have HK := hid ht.kw
        have HND := hid ht.nd
        have HRV := hid hrv
        clear ht hrv
        obtain ⟨M, hM⟩ : ∃ M, M = m'.length := ⟨_, rfl⟩
        rw [← hM] at HRV hml ⊢
        have HM := hid hM
        clear hM
        go_upto_if 45 with fail
        go_cut [9] (fun v wx => v = .int .i64 (topZ m') ∧ wx = wc)
        case first =>
          cases M with
          | zero =>
            have HT : Hid (topZ m' = 0) := by rw [Hid, List.eq_nil_of_length_eq_zero HM.out.symm]; rfl
            go_wp2_with fail
            go_meet
            exact ⟨by rw [HT.out], rfl⟩
          | succ M =>
            obtain ⟨b1, o1, z1, rfl, _, hz1, c1⟩ := HRV.out.at_ (j := M) (by omega)
            have HT : Hid (topZ m' = z1) := by rw [Hid, topZ_last, ← HM.out, Nat.add_sub_cancel, hz1]; rfl
            have e4 : decide ((0 : Int) < ((M + 1 : Nat) : Int)) = true := decide_eq_true (by omega)
            have e5 : ((M + 1 : Nat) : Int) - 1 = (M : Nat) := by omega
            have e6 : (M : Int) < ((M + 1 : Nat) : Int) := by omega
            clear hz1
            go_wp2_with fail
            go_meet
            exact ⟨by rw [HT.out], rfl⟩
        case rest =>
          obtain ⟨rfl, rfl⟩ := hcut
          have HAl := hid HK.out.all
          rw [← HM.out] at HAl
          go_wp2_with fail
          refine HAl.out.mono ?_
          rintro e w2 ⟨a2, c2, rfl, hr2, hk2, hb2⟩
          have HS := hid (samez_any _ _ _ _ _ _ _ _ _ hr2 (HRV.out.on hb2))
          rw [zeq_same] at HS
          have HK2 := hid hk2
          have HRV2 := hid (HRV.out.on hb2)
          clear hr2 hk2 hb2 HAl HK HRV
          go_wp2_with fail
          refine HS.out.mono ?_
          rintro e w3 ⟨rfl, q3, rfl⟩
          have hb3 : RowKit.Below w2.heap.size w2 (w2.drewN q3) := below_drewN (Below.refl _ _) q3
          have HK3 := hid (HK2.out.on hb3)
          have HRV3 := hid (HRV2.out.on hb3)
          clear HS HK2 HRV2 hb3
          generalize w2.drewN q3 = W3 at *
          obtain ⟨Z, hZ⟩ : ∃ Z, Z = topZ m' := ⟨_, rfl⟩
          have HTp := hid HK3.out.top
          rw [← hZ] at HTp ⊢
          clear hZ
          go_wp2_with fail
          refine HTp.out.mono ?_
          rintro e w4 ⟨rfl, hk4, hb4⟩
          have HK4 := hid hk4
          have HRV4 := hid (HRV3.out.on hb4)
          clear hk4 hb4 HTp HK3 HRV3
          have HNx := hid (HK4.out.next id)
          have HBw : Hid (∀ u, Below w4.heap.size w4 u → Calls Tryd.prog 15 #[.slice av' M cv', .int .i64 id] u fun e w' => e = .returned (.int .i64 (nxt m' id)) ∧ w' = u) := fun u hu => kbelow_any (HRV4.out.on hu) HND.out id
          generalize nxt m' id = Y at *
          go_wp2_with fail
          refine HNx.out.mono ?_
          rintro e w5 ⟨rfl, hk5, hb5⟩
          have HB5 := hid (HBw.out _ hb5)
          have HT5 : Hid (Two w w5 g m' (.slice av' M cv')) := ⟨hk5, HND.out, av', cv', by rw [HM.out], by rw [← HM.out]; exact HRV4.out.on hb5⟩
          clear hk5 hb5 HNx HBw HK4 HRV4
          go_wp2_with fail
          refine HB5.out.mono ?_
          rintro e w6 ⟨rfl, rfl⟩
          clear HB5
          go_wp2
          go_roundw
          case rel => exact ⟨j + 1, m', by go_num, by omega, by omega, HT5.out, by rw [← HM.out]; omega⟩
          case measure => simp [numOf]; omega
    · have HA := hid (kawake_any wr (HP.out.on ht.kw.bel))
      have HB := hid ht.kw.bel
      clear ht
      by_cases h1 : j < n
      · have e1 : decide ((j : Int) < (n : Int)) = true := decide_eq_true (by omega)
        have e2 : decide ((j : Int) < 80) = false := decide_eq_false (by omega)
        go_wp2_with fail
        refine HA.out.mono ?_
        rintro e w5 ⟨rfl, hb5⟩
        have HB5 := hid (Below.on HB.out hb5)
        clear hb5 HA
        go_wp2
        go_ret
        exact ⟨rfl, HB5.out⟩
      · have e1 : decide ((j : Int) < (n : Int)) = false := decide_eq_false (by omega)
        go_wp2_with fail
        refine HA.out.mono ?_
        rintro e w5 ⟨rfl, hb5⟩
        have HB5 := hid (Below.on HB.out hb5)
        clear hb5 HA
        go_wp2
        go_ret
        exact ⟨rfl, HB5.out⟩

theorem walk (a : Option Addr) (n c : Nat) (l : List Int) (id : Int) (w : World) (hr : RdI .i64 w a n c l) (_ : c * 8 ≤ 140737488351232) (_ : (Lit.int .i64 id).wf = true) (hL : laidMetH Tryd.prog Rows.stackPlaysRow.laid w) :
    Calls Tryd.prog 3 #[.slice a n c, .int .i64 id] w fun e w' => e = .returned (.bool true) ∧ Below w.heap.size w w' := by
  obtain ⟨q, hp⟩ := plone_of hL
  exact core a n c l id hr.wf w (rz_of_rdi hr) q hp
end Go.Proofs.YtfedcpnnmkkpaaaDoor.stackPlays
