/- StackDrops: for every slice of numbers and every number the call returns true; nothing that was there has turned. -/
import Derived.Test.YtfedcpnnmkkpaaaDoorStkD
import Derived.Test.YtfedcpnnmkkpaaaDoorLibP
import Derived.LaidMore
import Derived.Deep.CutBlock
import Derived.Deep.DeepCutAuto
namespace Go.Proofs.YtfedcpnnmkkpaaaDoor.stackDrops
open Go Go.RowKit

theorem wfi {z : Int} (h : (Lit.int .i64 z).wf = true) : -9223372036854775808 ≤ z ∧ z ≤ 9223372036854775807 := by simpa [Lit.wf, IntKind.min, IntKind.max, IntKind.signed, IntKind.bits] using h

set_option maxRecDepth 100000 in
set_option maxHeartbeats 2000000 in
theorem core (a : Option Addr) (n c : Nat) (l : List Int) (id : Int) (hid_ : (Lit.int .i64 id).wf = true) (hz : ∀ z ∈ l, (Lit.int .i64 z).wf = true) (w : World) (h : Rz w a n c l) (q : Addr) (hp : Pl w q) :
    Calls Tryd.prog 5 #[.slice a n c, .int .i64 id] w fun e w' => e = .returned (.bool true) ∧ Below w.heap.size w w' := by
  have hs := h.small
  have HP := hid hp
  have HR := hid h
  have HZ := hid hz
  have hid' := wfi hid_
  clear hp h hz hid_
  go_enter Tryd.func5, Tryd.ntmps5
  go_wp2_with fail
  refine (kwnew w).mono ?_
  rintro e w1 ⟨rfl, h1⟩
  generalize w.heap.size = g at *
  have H1 := hid h1
  clear h1
  go_upto_block 0 with fail
  go_cut [6] (fun _ wc => ∃ m : List Int, Kw w wc g m ∧ ∀ x ∈ m, x ≠ 0)
  case first =>
    go_wp2
    go_loopw [6] (fun i wr => ∃ (j : Nat) (m : List Int), i = .int .i64 j ∧ j ≤ n ∧ j ≤ 40 ∧ Kw w wr g m ∧ (∀ x ∈ m, x ≠ 0) ∧ m.length ≤ j) (fun i _ => n - (numOf i).toNat)
    case atStart => exact ⟨0, [], rfl, by omega, by omega, H1.out, by simp, by simp⟩
    case round =>
      obtain ⟨j, m, rfl, hj, hj40, hk, hnd, hml⟩ := hrel
      clear H1
      have HND := hid hnd
      by_cases hgo : j < n ∧ j < 40
      · obtain ⟨hgo1, hgo2⟩ := hgo
        have e1 : decide ((j : Int) < (n : Int)) = true := decide_eq_true (by omega)
        have e2 : decide ((j : Int) < 40) = true := decide_eq_true (by omega)
        have e3 : (j : Int) < (n : Int) := by omega
        obtain ⟨bl, off, x, rfl, hbl, hx, c0⟩ := (HR.out.on hk.bel).at_ hgo1
        have CP := hid (place_any x 12 (wfi (HZ.out x (List.mem_of_getElem? hx))) (by omega) (by omega))
        have hv := plc_lt x 12 (by omega)
        obtain ⟨v, hv'⟩ : ∃ v, v = plc x 12 := ⟨_, rfl⟩
        rw [← hv'] at CP hv
        have HK := hid (hk.raise (by omega) (1 + (v : Int)) HP.out)
        have hrl := rse_length m (1 + (v : Int))
        clear hk hx hv' hnd
        go_wp2_with fail
        refine (CP.out _).mono ?_
        rintro e u ⟨rfl, rfl⟩
        clear CP
        go_wp2_with fail
        refine HK.out.mono ?_
        rintro e w2 ⟨⟨r, rfl⟩, hk2, -⟩
        have HK2 := hid hk2
        clear hk2 HK c0
        go_wp2
        go_roundw
        case rel => exact ⟨j + 1, _, by go_num, by omega, by omega, HK2.out, fun y hy => (mem_rse hy).elim (fun h => HND.out y h) (fun h => by omega), by omega⟩
        case measure => simp [numOf]; omega
      · have HM : Hid (∃ m : List Int, Kw w wr g m ∧ ∀ x ∈ m, x ≠ 0) := ⟨m, hk, hnd⟩
        clear hk hnd HND
        by_cases h1 : j < n
        · have e1 : decide ((j : Int) < (n : Int)) = true := decide_eq_true (by omega)
          have e2 : decide ((j : Int) < 40) = false := decide_eq_false (by omega)
          go_wp2
          go_meet
          exact HM.out
        · have e1 : decide ((j : Int) < (n : Int)) = false := decide_eq_false (by omega)
          go_wp2
          go_meet
          exact HM.out
  case rest =>
    obtain ⟨m, hk, hnz⟩ := hcut
    have HK := hid hk
    have HNZ := hid hnz
    have hl := hk.len
    obtain ⟨i0, hi, hz0, hz1, hz2⟩ := infoZp
    have CP := hid (place_any id 12 hid' (by omega) (by omega))
    have hv := plc_lt id 12 (by omega)
    obtain ⟨v, hv'⟩ : ∃ v, v = plc id 12 := ⟨_, rfl⟩
    rw [← hv'] at CP hv
    clear hk hnz H1 hv'
    go_wp2_with fail
    refine (CP.out _).mono ?_
    rintro e u ⟨rfl, rfl⟩
    clear CP
    obtain ⟨k, hk⟩ : ∃ k : Int, k = 1 + (v : Int) := ⟨_, rfl⟩
    go_wp2_with fail
    rw [← hk]
    clear hk hv
    refine HK.out.all.mono ?_
    rintro e w2 ⟨a2, c2, rfl, hr2, hk2, -⟩
    have HK2 := hid hk2
    have HR2 := hid hr2
    clear hk2 hr2 HK
    go_wp2_with fail
    refine (HK2.out.drop k HP.out).mono ?_
    rintro e w3 ⟨⟨r, rfl⟩, hk3, hkp⟩
    have HR3 := hid (HK2.out.rz hkp HR2.out)
    have HK3 := hid hk3
    clear hk3 hkp HK2 HR2
    go_wp2_with fail
    refine HK3.out.all.mono ?_
    rintro e w4 ⟨a4, c4, rfl, hr4, hk4, hb4⟩
    have HK4 := hid hk4
    have HR4 := hid hr4
    have HQ4 := hid (HR3.out.on hb4)
    clear hk4 hr4 hb4 HK3 HR3
    go_wp2_with fail
    refine (HK4.out.drop k HP.out).mono ?_
    rintro e w5 ⟨⟨r', rfl⟩, hk5, hkp⟩
    have HR5 := hid (HK4.out.rz hkp HR4.out)
    have HQ5 := hid (HK4.out.rz hkp HQ4.out)
    have hdd : dr k (dr k m) = dr k m := dr_not (fun h => (mem_dr.1 h).2 rfl)
    rw [hdd] at hk5
    have HK5 := hid hk5
    clear hk5 hkp HK4 HR4 HQ4 hdd
    have HNZ2 : Hid (∀ x ∈ dr k m, x ≠ 0) := fun x hx => HNZ.out x (mem_dr.1 hx).1
    clear HNZ
    obtain ⟨N, hN⟩ : ∃ N, N = m.length := ⟨_, rfl⟩
    have HN := hid hN
    rw [← hN] at HQ5 hl ⊢
    have hdl := dr_length k m
    rw [← hN] at hdl
    clear hN
    go_wp2
    go_loopw [10, 11] (fun v i wr => ∃ j : Nat, i = .int .i64 (j : Nat) ∧ j ≤ N ∧ OwZ w5 wr v (dr k (m.take j))) (fun _ i _ => N - (numOf i).toNat)
    case atStart => exact ⟨0, rfl, by omega, OwZ.nil w5⟩
    case round =>
      obtain ⟨j, rfl, hj, ho⟩ := hrel
      have hjl : (dr k (m.take j)).length ≤ j := Nat.le_trans (dr_length _ _) (List.length_take_le _ _)
      by_cases hgo : j < N
      · have e1 : decide ((j : Int) < N) = true := decide_eq_true (by omega)
        have e2 : (j : Int) < N := by omega
        obtain ⟨bl, off, x, rfl, hbl, hx, c0⟩ := (HQ5.out.on ho.bel).at_ hgo
        have htk : m.take (j + 1) = m.take j ++ [x] := by rw [List.take_add_one, hx]; rfl
        cases hs : (x != k)
        · have HT : Hid (dr k (m.take (j + 1)) = dr k (m.take j)) := by
            rw [Hid, htk, dr_append]
            obtain rfl : x = k := by simpa using hs
            simp [dr]
          have HO := hid ho
          clear ho hx htk hjl
          go_wp2
          go_roundw
          case rel => exact ⟨j + 1, by go_num, by omega, by rw [HT.out]; exact HO.out⟩
          case measure => simp [numOf]; omega
        · have HT : Hid (dr k (m.take (j + 1)) = dr k (m.take j) ++ [x]) := by
            rw [Hid, htk, dr_append]
            simp only [dr, List.filter_cons, List.filter_nil, hs, if_true]
          have HO := hid ho
          have HN2 : Hid (∀ v v' u, OwZ w5 wr v (dr k (m.take j)) → u.ownsRow w5.heap.size 3 1 v' ((dr k (m.take j)).length + 1) (ic (dr k (m.take j)) ++ ic [x]) → (wr.alloc (.cells #[.int .i64 x] 3)).grownBy u v.ownBlock → OwZ w5 u v' (dr k (m.take (j + 1)))) := fun v v' u hv o g => by
            rw [HT.out]
            exact (hv.alloc _).grown (k := [x]) rfl o g
          have HS := hid (srcLit wr x)
          have HW := hid (ho.alloc (.cells #[.int .i64 x] 3)).own
          have hws : w5.heap.size ≤ (wr.alloc (.cells #[.int .i64 x] 3)).heap.size := by rw [World.size_alloc]; have := ho.bel.size; omega
          clear ho hx htk HT
          go_wp2_with (at_builtin; refine wpList_append_own_src _ rfl (.tmp 58) (.tmp 63) 22 22 rfl w5.heap.size 3 i0 (.int .i64 0) 1 8 Tryd.underlying22 hi hz0 hz1 hz2 rfl _ _ _ rfl HW.out _ _ _ rfl HS.out (by simp only [maxLen]; omega) (fitsZ (by omega)) hws ?_; intro v3 w3 o3 g3; have HZ3 := hid (HN2.out _ _ _ HO.out o3 g3); clear o3 g3)
          go_roundw
          case rel => exact ⟨j + 1, by go_num, by omega, HZ3.out⟩
          case measure => simp [numOf]; omega
      · have e1 : decide ((j : Int) < N) = false := decide_eq_false (by omega)
        obtain rfl : j = N := by omega
        have htk : m.take j = m := List.take_of_length_le (by rw [← HN.out]; exact Nat.le_refl _)
        rw [htk] at ho
        obtain ⟨a6, c6, rfl, hr6, -⟩ := ho.rd
        have HS := hid (samez_any _ _ _ _ _ _ _ _ _ (HR5.out.on ho.bel) hr6)
        rw [zeq_same] at HS
        have HK6 := hid (HK5.out.on ho.bel)
        have HR6 := hid hr6
        have HZ0 : Hid ((dr k m = [] ∧ topZ (dr k m) = 0 ∧ (dr k m).length = 0) ∨ (topZ (dr k m) ≠ 0 ∧ (dr k m).length ≠ 0)) := by
          rw [Hid]
          rcases (dr k m).eq_nil_or_concat with h | ⟨x, y, h⟩
          · exact .inl ⟨h, by rw [h]; rfl, by rw [h]; rfl⟩
          · refine .inr ⟨fun e => ?_, by rw [h]; simp⟩
            have := (topZ_zero HNZ2.out).1 e
            rw [this] at h
            simp at h
        clear ho hr6 htk HK5 HQ5 HR5 hgo hjl HN
        obtain ⟨M, hM⟩ : ∃ M, M = dr k m := ⟨_, rfl⟩
        rw [← hM] at HS HK6 HR6 HZ0 hdl ⊢
        clear hM HNZ2
        obtain ⟨L, hL⟩ : ∃ L, L = M.length := ⟨_, rfl⟩
        rw [← hL] at HS HR6 HZ0 hdl ⊢
        have HL := hid hL
        clear hL
        go_wp2_with fail
        refine HS.out.mono ?_
        rintro e w6 ⟨rfl, q6, rfl⟩
        have hb6 : RowKit.Below wr.heap.size wr (wr.drewN q6) := below_drewN (Below.refl _ _) q6
        have HK7 := hid (HK6.out.on hb6)
        have HR7 := hid (HR6.out.on hb6)
        clear HS HK6 HR6 hb6
        generalize wr.drewN q6 = W6 at *
        have HAl := hid HK7.out.all
        rw [← HL.out] at HAl
        go_wp2_with fail
        refine HAl.out.mono ?_
        rintro e w8 ⟨a8, c8, rfl, hr8, hk8, hb8⟩
        have HS := hid (samez_any _ _ _ _ _ _ _ _ _ hr8 (HR7.out.on hb8))
        rw [zeq_same] at HS
        have HK8 := hid hk8
        clear hr8 hk8 hb8 HK7 HR7 HAl
        go_wp2_with fail
        refine HS.out.mono ?_
        rintro e w9 ⟨rfl, q9, rfl⟩
        have HK9 := hid (HK8.out.on (below_drewN (Below.refl _ _) q9))
        clear HS HK8
        generalize w8.drewN q9 = W9 at *
        have HT := hid HK9.out.top
        obtain ⟨Z, hZ⟩ : ∃ Z, Z = topZ M := ⟨_, rfl⟩
        rw [← hZ] at HT HZ0
        clear hZ
        have HA : Hid (∀ u, Below w.heap.size w u → Calls Tryd.prog 16 #[] u fun e w' => e = .returned (.bool true) ∧ Below w.heap.size w w') := fun u hu => (kawake_any u (HP.out.on hu)).mono fun _ _ ⟨h1, h2⟩ => ⟨h1, Below.on hu h2⟩
        rcases HZ0.out with ⟨-, h1, h2⟩ | ⟨h1, h2⟩
        · subst h1
          subst h2
          clear HZ0
          go_wp2_with fail
          refine HT.out.mono ?_
          rintro e w10 ⟨rfl, hk10, -⟩
          have HB := hid (HA.out _ hk10.bel)
          clear hk10 HT HA
          go_wp2_with fail
          refine HB.out.mono ?_
          rintro e w11 ⟨rfl, hb11⟩
          have HB11 := hid hb11
          clear hb11 HB
          go_wp2
          go_ret
          exact ⟨rfl, HB11.out⟩
        · have e3 : (Z == 0) = false := by simpa using h1
          have e4 : ((L : Int) == 0) = false := by simpa using h2
          clear HZ0 h1 h2
          go_wp2_with fail
          refine HT.out.mono ?_
          rintro e w10 ⟨rfl, hk10, -⟩
          have HB := hid (HA.out _ hk10.bel)
          clear hk10 HT HA
          go_wp2_with fail
          refine HB.out.mono ?_
          rintro e w11 ⟨rfl, hb11⟩
          have HB11 := hid hb11
          clear hb11 HB
          go_wp2
          go_ret
          exact ⟨rfl, HB11.out⟩

theorem walk (a : Option Addr) (n c : Nat) (l : List Int) (id : Int) (w : World) (hr : RdI .i64 w a n c l) (_ : c * 8 ≤ 140737488351232) (hi : (Lit.int .i64 id).wf = true) (hL : laidMetH Tryd.prog Rows.stackDropsRow.laid w) :
    Calls Tryd.prog 5 #[.slice a n c, .int .i64 id] w fun e w' => e = .returned (.bool true) ∧ Below w.heap.size w w' := by
  obtain ⟨q, hp⟩ := plone_of hL
  exact core a n c l id hi hr.wf w (rz_of_rdi hr) q hp
end Go.Proofs.YtfedcpnnmkkpaaaDoor.stackDrops
