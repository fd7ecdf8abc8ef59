/- UsesTurns: for every list of truths, number and list of others the call returns true; nothing that was there has turned. -/
import Derived.Test.YtmihmajhfoghpaaUseE
import Derived.Test.YtmihmajhfoghpaaLibB
import Derived.Test.YtmihmajhfoghpaaLibP
import Derived.Deep.DeepCutAuto
import Derived.Deep.CutRange
import Derived.BigQuiet
namespace Go.Proofs.Ytmihmajhfoghpaa.usesTurns
open Go Go.RowKit

/-- What stands at the head of each round. -/
structure Kt (w x : World) (p : Nat) (k : Int) (was : Bool) (c i : Nat) : Prop where
  us : ∃ L told, Us w x p L told [] ∧ (k ∈ L ↔ was = true) ∧ c = told.count k ∧ L.length ≤ 3 ∧ told.length ≤ 3 * i

/-- Whether a number is told: it was held, and is no more. -/
theorem gone_iff {L zs : List Int} {k : Int} {was t : Bool} (h1 : k ∈ L ↔ was = true) (h2 : k ∈ zs ↔ t = true) : decide (k ∈ gone L zs) = (was && !t) := by
  have : (k ∈ gone L zs) ↔ ((was && !t) = true) := by
    rw [mem_gone, h1, h2]
    cases was <;> cases t <;> simp
  cases h : (was && !t) with
  | true => rw [h] at this; exact decide_eq_true (this.2 rfl)
  | false => rw [h] at this; exact decide_eq_false (fun h' => by cases this.1 h')
theorem count_gone {L zs : List Int} (h : Ris L) (k : Int) : (gone L zs).count k = if k ∈ gone L zs then 1 else 0 := by
  have h1 := List.nodup_iff_count.1 (ris_nodup (gone_ris h zs)) k
  split
  · rename_i hk
    have := List.count_pos_iff.2 hk
    omega
  · rename_i hk
    exact List.count_eq_zero.2 hk

set_option maxRecDepth 100000 in
set_option maxHeartbeats 4000000 in
theorem walk (a0 : Option Addr) (n0 c0 : Nat) (t : Nat → Bool) (id : Int) (a2 : Option Addr) (n2 c2 : Nat) (os : List Int) (w : World) (h0 : RdB w a0 n0 c0 t) (h1 : (Lit.int .i64 id).wf = true) (h2 : RdI .i64 w a2 n2 c2 os) (_hc : c2 * 8 ≤ 140737488351232) :
    Calls Try.prog 4 #[.slice a0 n0 c0, .int .i64 id, .slice a2 n2 c2] w fun e w' => e = .returned (.bool true) ∧ Below w.heap.size w w' := by
  obtain ⟨i0, hi, hz0, hz1, hz2⟩ := info_parts infoInt
  have H0 := hid h0
  have H2 := hid h2
  have hs0 := h0.small
  have hs1 := h0.le
  have hs2 := h2.le
  have hs3 := h2.max
  simp only [maxLen] at hs3
  have HP := hid (place_any id 1000 (of_wf64 h1) (by omega) (by omega) w)
  have hpl := plc_lt id 1000 (by omega)
  generalize plc id 1000 = kp at HP hpl
  clear h0 h1 h2
  go_enter Try.func4, Try.ntmps4
  go_wp2_with fail
  refine HP.out.mono ?_
  rintro e w1 ⟨rfl, hw1⟩
  subst hw1
  go_wp2_with fail
  refine (usnew w1 w1 (Below.refl _ _)).mono ?_
  rintro e w2 ⟨rfl, hU⟩
  obtain ⟨k, hk⟩ : ∃ k : Int, k = 1 + (kp : Int) := ⟨_, rfl⟩
  have hk1 : 0 < k ∧ k ≤ 1000 := by omega
  have HK0 : Hid (Kt w1 w2 (w1.heap.size + 2) k false 0 0) := ⟨[], [], hU, by simp, rfl, by simp, by simp⟩
  clear hU HP
  generalize w1.heap.size + 2 = p at HK0 ⊢
  rw [← hk]
  clear hk
  go_wp2
  go_loopw [9, 10, 11] (fun nn ww i wx => ∃ (j c : Nat) (was : Bool), i = .int .i64 j ∧ nn = .int .i64 c ∧ ww = .bool was ∧ j ≤ 60 ∧ Kt w1 wx p k was c j)
    (fun _ _ i _ => 60 - (numOf i).toNat)
  case atStart => exact ⟨0, 0, false, rfl, rfl, rfl, by omega, HK0.out⟩
  case round =>
    obtain ⟨j, c, was, rfl, rfl, rfl, hj, hK⟩ := hrel
    have HK := hid hK
    clear hK HK0
    by_cases hgo : j < n0 ∧ j < 60
    · have e1 : decide ((j : Int) < n0) = true := decide_eq_true (by omega)
      have e2 : decide ((j : Int) < 60) = true := decide_eq_true (by omega)
      obtain ⟨L, told, hU, hkL, hcnt, hLl, htl⟩ := HK.out.us
      have HU := hid hU
      have HKL := hid hkL
      have HCN := hid hcnt
      have HB1 := hid hU.bel
      obtain ⟨bl, off, rfl, hbl, hcl⟩ := H0.out.pl (by omega)
      have cl0 := hcl j hgo.1
      have cl := cl0
      rw [← HB1.out.cell hbl] at cl
      have hjn : (j : Int) < n0 := by omega
      obtain ⟨tj, htj⟩ : ∃ tj, tj = t j := ⟨_, rfl⟩
      rw [← htj] at cl cl0
      have HCL := hid cl0
      obtain ⟨o, ho⟩ : ∃ o, o = os.getD j 0 := ⟨_, rfl⟩
      have HOI : Hid (j < n2 → I64 o) := fun h => by
        have hl := H2.out.len
        rw [ho, List.getD, List.getElem?_eq_getElem (by omega)]
        exact of_wf64 (H2.out.wf _ (List.getElem_mem (by omega)))
      have HCO : Hid (j < n2 → ∃ bo offo, a2 = some ⟨bo, offo, none⟩ ∧ bo < w1.heap.size ∧ w1.cell? ⟨bo, offo + j, none⟩ = some (.int .i64 o)) := fun h => by
        obtain ⟨bo, offo, e, hbo, hco⟩ := H2.out.plain (by omega)
        exact ⟨bo, offo, e, hbo, by rw [ho]; exact hco j (by rw [H2.out.len]; exact h)⟩
      obtain ⟨q, hq⟩ : ∃ q : Bool, q = decide (j < n2 ∧ o ≠ k) := ⟨_, rfl⟩
      have HQ := hid hq
      clear hq ho htj cl0 hcl hkL hcnt hU HK
      go_upto_region 11 with fail
      go_cut [43] from 22 to 96 (fun v wx => v = .bool q ∧ wx = wr)
      case first =>
        by_cases hj2 : j < n2
        · have e3 : decide ((j : Int) < n2) = true := decide_eq_true (by omega)
          obtain ⟨bo, offo, rfl, hbo, co⟩ := HCO.out hj2
          rw [← HB1.out.cell hbo] at co
          have hjj : (j : Int) < n2 := by omega
          by_cases hok : o = k
          · have e4 : (o != k) = false := by simp [hok]
            have hqf : q = false := by rw [HQ.out]; exact decide_eq_false (fun h => h.2 hok)
            clear hok
            go_wp2_with fail
            go_meet
            exact ⟨by rw [hqf], rfl⟩
          · have e4 : (o != k) = true := by simpa using hok
            have hqf : q = true := by rw [HQ.out]; exact decide_eq_true ⟨hj2, hok⟩
            clear hok
            go_wp2_with fail
            go_meet
            exact ⟨by rw [hqf], rfl⟩
        · have e3 : decide ((j : Int) < n2) = false := decide_eq_false (by omega)
          have hqf : q = false := by rw [HQ.out]; exact decide_eq_false (fun h => hj2 h.1)
          go_wp2_with fail
          go_meet
          exact ⟨by rw [hqf], rfl⟩
      case rest =>
        obtain ⟨rfl, rfl⟩ := hcut
        obtain ⟨W0, hW0⟩ : ∃ W0, W0 = wc := ⟨_, rfl⟩
        have HW0 := hid hW0
        have HU0 : Hid (Us w1 W0 p L told []) := by rw [Hid, hW0]; exact HU.out
        obtain ⟨zs0, hzs0⟩ : ∃ zs0, zs0 = if q = true then [o] else [] := ⟨_, rfl⟩
        have HZ0 := hid hzs0
        have hzl0 : zs0.length ≤ 1 := by rw [hzs0]; split <;> simp
        clear hzs0 hW0
        go_upto_if 43 with fail
        go_cut [12] from 22 to 96 (fun v wx => wx.ownsRow W0.heap.size 3 1 v zs0.length (zs0.map encZ) ∧ Below W0.heap.size W0 wx)
        case first =>
          cases q with
          | false =>
            have hz : zs0 = [] := HZ0.out
            subst hz
            go_wp2
            go_meet
            rw [HW0.out]
            exact ⟨World.ownsRow_nil _ _ _ _, Below.refl _ _⟩
          | true =>
            have hz : zs0 = [o] := HZ0.out
            subst hz
            have hjo := of_decide_eq_true HQ.out.symm
            obtain ⟨bo, offo, rfl, hbo, co⟩ := HCO.out hjo.1
            rw [← HB1.out.cell hbo] at co
            have hjj : (j : Int) < n2 := by omega
            have hoi := HOI.out hjo.1
            have HSR : Hid (Src Try.prog 1 26 (.slice (some ⟨wc.heap.size, 0, none⟩) 1 1) 1 [.int .i64 o] (wc.alloc (.cells #[.int .i64 o] 3))) :=
              (rdi_lit (zs := [o]) (heap_alloc_new wc _) (by simpa using hoi) (by simp [maxLen])).src Try.underlying26
            have HOW := hid (World.ownsRow_nil (wc.alloc (.cells #[.int .i64 o] 3)) wc.heap.size 3 1)
            have hsz2 : wc.heap.size ≤ (wc.alloc (.cells #[.int .i64 o] 3)).heap.size := by rw [World.size_alloc]; omega
            clear hjo hoi
            go_wp2_with (at_builtin; refine wpList_append_own_src _ rfl (.tmp 44) (.tmp 49) 26 26 rfl wc.heap.size 3 i0 (.int .i64 0) 1 8 Try.underlying26 hi hz0 hz1 hz2 rfl _ _ _ rfl HOW.out _ _ _ rfl HSR.out (by simp only [maxLen]; omega) (fits8 (by omega)) hsz2 ?_; intro v3 w3 o3 g3; have HO3 := hid o3; have HG3 := hid g3; clear o3 g3)
            go_meet
            rw [HW0.out]
            refine ⟨HO3.out, ?_⟩
            have hb : Below wc.heap.size wc (wc.alloc (.cells #[.int .i64 o] 3)) := (Below.refl _ _).alloc (Nat.le_refl _) _
            exact hb.trans ((kp_of_grown HG3.out).below hsz2 (fun k hk => by cases hk))
        case rest =>
          obtain ⟨hrow, hbel⟩ := hcut
          have HROW := hid hrow
          have HBEL := hid hbel
          have HCUR := hid (HU0.out.on hbel)
          clear hrow hbel cl HW0 HB1 HU
          have cl := HCL.out
          rw [← HCUR.out.bel.cell hbl] at cl
          obtain ⟨zs1, hzs1⟩ : ∃ zs1, zs1 = zs0 ++ if tj = true then [k, k] else [] := ⟨_, rfl⟩
          have HZ1 := hid hzs1
          have hzl1 : zs1.length ≤ 3 := by rw [hzs1, List.length_append]; split <;> simp <;> omega
          clear hzs1
          go_upto_if 54 with fail
          go_cut [12] from 22 to 96 (fun v wx => wx.ownsRow W0.heap.size 3 1 v zs1.length (zs1.map encZ) ∧ Below W0.heap.size W0 wx)
          case first =>
            cases tj with
            | false =>
              have hz : zs1 = zs0 := by rw [HZ1.out]; simp
              go_wp2
              go_meet
              rw [hz]
              exact ⟨HROW.out, HBEL.out⟩
            | true =>
              have hz : zs1 = zs0 ++ [k, k] := by rw [HZ1.out]; simp
              have HSR : Hid (Src Try.prog 1 26 (.slice (some ⟨wc.heap.size, 0, none⟩) 2 2) 2 ([k, k].map encZ) (wc.alloc (.cells #[.int .i64 k, .int .i64 k] 3))) :=
                (rdi_lit (zs := [k, k]) (heap_alloc_new wc _) (by intro z hz; simp at hz; subst hz; exact ⟨by omega, by omega⟩) (by simp [maxLen])).src Try.underlying26
              have HOW := hid (HROW.out.alloc (.cells #[.int .i64 k, .int .i64 k] 3))
              have hsz2 : W0.heap.size ≤ (wc.alloc (.cells #[.int .i64 k, .int .i64 k] 3)).heap.size := by rw [World.size_alloc]; have := HBEL.out.size; omega
              go_wp2_with (at_builtin; refine wpList_append_own_src _ rfl (.tmp 55) (.tmp 58) 26 26 rfl W0.heap.size 3 i0 (.int .i64 0) 1 8 Try.underlying26 hi hz0 hz1 hz2 rfl _ _ _ rfl HOW.out _ _ _ rfl HSR.out (by simp only [maxLen]; omega) (fits8 (by omega)) hsz2 ?_; intro v3 w3 o3 g3; have HO3 := hid o3; have HG3 := hid g3; clear o3 g3)
              go_meet
              rw [hz]
              have hm := own_more (ys := [k, k]) HOW.out hsz2 HO3.out HG3.out
              exact ⟨hm.1, (HBEL.out.alloc HBEL.out.size _).trans hm.2⟩
          case rest =>
            obtain ⟨hrow, hbel⟩ := hcut
            have HIZ : Hid (∀ z ∈ zs1, I64 z) := fun z hz => by
              rw [HZ1.out, List.mem_append] at hz
              rcases hz with hz | hz
              · rw [HZ0.out] at hz
                split at hz
                · rename_i hq
                  rw [HQ.out] at hq
                  simp only [List.mem_cons, List.not_mem_nil, or_false] at hz
                  subst hz
                  exact HOI.out (of_decide_eq_true hq).1
                · cases hz
              · split at hz
                · simp at hz
                  subst hz
                  exact ⟨by omega, by omega⟩
                · cases hz
            have HKZ : Hid (k ∈ zs1 ↔ tj = true) := by
              rw [Hid, HZ1.out, List.mem_append]
              constructor
              · rintro (hz | hz)
                · rw [HZ0.out] at hz
                  split at hz
                  · rename_i hq
                    rw [HQ.out] at hq
                    simp only [List.mem_cons, List.not_mem_nil, or_false] at hz
                    exact absurd hz.symm (of_decide_eq_true hq).2
                  · cases hz
                · split at hz
                  · assumption
                  · cases hz
              · intro h
                rw [if_pos h]
                exact .inr (by simp)
            obtain ⟨a4, c4, rfl, hrd, -⟩ := rdi_of_owns hrow HIZ.out
            have HRD := hid hrd
            have HU2 := hid (HU0.out.on hbel)
            clear hrow hbel cl HROW HBEL HCUR hrd
            have HZL := hid hzl1
            obtain ⟨N1, hN1⟩ : ∃ N1, N1 = zs1.length := ⟨_, rfl⟩
            rw [← hN1] at HRD hzl1 ⊢
            clear hN1
            go_wp2_with fail
            refine (HU2.out.now a4 N1 c4 zs1 HRD.out (by omega) (by omega) (gone L zs1) (setOf zs1) (told ++ gone L zs1) rfl rfl rfl).mono ?_
            rintro e w3 ⟨v3, rfl, hv3, hU3, -, hs3⟩
            have HRIS : Hid (Ris L) := by
              obtain ⟨a, b, h, _⟩ := HU2.out.ex
              exact h.ris
            obtain ⟨G, hG⟩ : ∃ G, G = gone L zs1 := ⟨_, rfl⟩
            have HG := hid hG
            rw [← hG] at hv3 hU3
            have hGl : G.length ≤ 3 := by rw [hG]; exact Nat.le_trans (gone_length _ _) hLl
            obtain ⟨a5, c5, rfl, -, hle5, hmx5, hnil5, hc5⟩ := ints_of_owns hv3
            simp only [maxLen] at hmx5
            have HC5 := hid hc5
            have HN5 := hid hnil5
            have HU3 := hid (hU3.drop (J := []) (by simp))
            obtain ⟨m, hm⟩ : ∃ m, m = G.length := ⟨_, rfl⟩
            have HMM := hid hm
            rw [← hm] at hGl hle5 ⊢
            clear hv3 hU3 hG hm hc5 hnil5 HU2 HRD
            go_wp2
            go_loopw [13, 64] (fun v i wx => ∃ r : Nat, i = .int .i64 r ∧ r ≤ m ∧ v = .bool (decide (k ∈ G.take r)) ∧ wx = w3) (fun _ i _ => m - (numOf i).toNat)
            case atStart => exact ⟨0, rfl, by omega, by simp, rfl⟩
            case round =>
              obtain ⟨r, rfl, hr, rfl, rfl⟩ := hrel
              by_cases hgo2 : r < m
              · have e3 : decide ((r : Int) < m) = true := decide_eq_true (by omega)
                obtain ⟨y, rfl⟩ : ∃ y, a5 = some y := by
                  cases a5 with
                  | none => have := HN5.out rfl; omega
                  | some y => exact ⟨y, rfl⟩
                obtain ⟨g, rfl, -, hg, hcc⟩ := HC5.out y rfl
                obtain ⟨z, hz⟩ : ∃ z, G[r]? = some z := ⟨_, List.getElem?_eq_getElem (by rw [← HMM.out]; exact hgo2)⟩
                have cz := hcc r z hz
                have hrr : (r : Int) < m := by omega
                have HTK : Hid (decide (k ∈ G.take (r + 1)) = (decide (k ∈ G.take r) || (z == k))) := by
                  rw [Hid, List.take_add_one, hz]
                  by_cases h1 : k ∈ G.take r
                  · simp [h1]
                  · by_cases h2 : z = k
                    · subst h2
                      simp
                    · have h3 : ¬ k = z := fun h => h2 h.symm
                      simp [h1, h2, h3]
                generalize decide (k ∈ G.take r) = bq at HTK ⊢
                clear hz hcc
                cases bq with
                | true =>
                  go_wp2
                  go_roundw
                  case rel => exact ⟨r + 1, by go_num, by omega, by rw [HTK.out, Bool.true_or], trivial⟩
                  case measure => simp [numOf]; omega
                | false =>
                  rw [Bool.false_or] at HTK
                  generalize hzk : (z == k) = zk at HTK
                  go_wp2
                  go_roundw
                  case rel => exact ⟨r + 1, by go_num, by omega, by rw [HTK.out], trivial⟩
                  case measure => simp [numOf]; omega
              · obtain rfl : r = m := by omega
                have e3 : decide ((r : Int) < r) = false := decide_eq_false (by omega)
                have cl := HCL.out
                rw [← HU3.out.bel.cell hbl] at cl
                have htk : G.take r = G := List.take_of_length_le (by rw [← HMM.out]; exact Nat.le_refl _)
                have hgi : decide (k ∈ G) = (was && !tj) := by rw [HG.out]; exact gone_iff HKL.out HKZ.out
                have hct : (told ++ G).count k = c + if (was && !tj) = true then 1 else 0 := by
                  rw [List.count_append, ← HCN.out, ← hgi, HG.out, count_gone HRIS.out]
                  simp
                have hcb : c ≤ 200 := by rw [HCN.out]; exact Nat.le_trans List.count_le_length (by omega)
                have HTM := hid (HU3.out.times k ⟨by omega, by omega⟩)
                have HEND : Hid (Kt w1 wr p k tj ((told ++ G).count k) (j + 1)) := ⟨setOf zs1, told ++ G, HU3.out, by rw [mem_setOf, ← HKZ.out]; exact ⟨fun h => h.2, fun h => ⟨hk1.1, h⟩⟩, rfl, Nat.le_trans (setOf_length zs1) HZL.out, by
                  rw [List.length_append]
                  have : G.length ≤ 3 := by rw [← HMM.out]; exact hGl
                  omega⟩
                rw [htk, hgi]
                rw [hct] at HTM HEND
                have n1 : ∀ x : Int, (x != x) = false := fun x => by simp
                clear htk hgi hct
                cases was <;> cases tj
                all_goals
                  simp only [Bool.and_true, Bool.and_false, Bool.not_true, Bool.not_false, if_true, Bool.false_eq_true, if_false, Nat.add_zero] at HTM HEND ⊢
                  go_wp2_with fail
                  refine HTM.out.mono ?_
                  rintro e w4 ⟨rfl, hw4⟩
                  subst hw4
                  go_wp2
                  exact ⟨⟨j + 1, _, _, by go_num, by go_num, rfl, by omega, HEND.out⟩, by simp [numOf]; omega⟩
    · have HB : Hid (Below w1.heap.size w1 wr) := by
        obtain ⟨L, told, hU, _⟩ := HK.out.us
        exact hU.bel
      clear HK
      have fin : ∀ x, Below w1.heap.size w1 x → Calls Try.prog 7 #[] x fun e y => e = .returned (.bool true) ∧ Below w1.heap.size w1 y := fun x hx => by
        refine (uawake_any x).mono ?_
        rintro e y ⟨rfl, hb⟩
        exact ⟨rfl, Below.on hx hb⟩
      have HF := hid (fin wr HB.out)
      clear fin HB
      by_cases h1 : j < n0
      · have e1 : decide ((j : Int) < n0) = true := decide_eq_true (by omega)
        have e2 : decide ((j : Int) < 60) = false := decide_eq_false (by omega)
        go_wp2_with fail
        refine HF.out.mono ?_
        rintro e y ⟨rfl, hb⟩
        go_wp2
        go_ret
        exact ⟨rfl, hb⟩
      · have e1 : decide ((j : Int) < n0) = false := decide_eq_false (by omega)
        go_wp2_with fail
        refine HF.out.mono ?_
        rintro e y ⟨rfl, hb⟩
        go_wp2
        go_ret
        exact ⟨rfl, hb⟩
end Go.Proofs.Ytmihmajhfoghpaa.usesTurns
