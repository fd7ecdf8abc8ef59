/- The document's Shift. -/
import Derived.Test.YtklghdagehbfeaaRgfI
namespace Go.Proofs.Ytklghdagehbfeaa
open Go Go.RowKit

theorem far_yes {n : Int} (h : n < -16777216 ∨ 16777216 < n) : far n = true := by
  simp [far]
  omega
theorem far_not {n : Int} (h : -16777216 ≤ n ∧ n ≤ 16777216) : far n = false := by
  simp [far]
  omega
theorem shl_snoc {l : List Rc} {j : Nat} {r : Rc} (h : l[j]? = some r) (x y : Int) : shl (l.take (j + 1)) x y = shl (l.take j) x y ++ (if emp (bnd (sh r x y)) = true then [] else [bnd (sh r x y)]) := by
  rw [List.take_add_one, h, shl, shl, Option.toList_some, List.map_append, List.filter_append]
  congr 1
  cases he : emp (bnd (sh r x y)) <;> simp [he]

set_option maxRecDepth 100000 in
set_option maxHeartbeats 1000000 in
theorem rshiftreg_any (a : Option Addr) (n c : Nat) (l : List Rc) (x y : Int) (hx : -9223372036854775808 ≤ x ∧ x ≤ 9223372036854775807) (hy : -9223372036854775808 ≤ y ∧ y ≤ 9223372036854775807) (w : World) (h : RdC w a n c l) (hn : n ≤ 4096) :
    Calls Try.prog 29 #[.slice a n c, .int .i64 x, .int .i64 y] w (Ret w (shf l x y)) := by
  have H := hid h
  have HL := hid h.len
  have hs := h.small
  have C1 := hid (fun u hu => rregcheck_any a n c l u hu hn)
  clear h
  cases h1 : rgn l
  · have HU : Hid (shf l x y = []) := by rw [Hid, shf, if_neg (by rw [h1]; simp)]
    rw [h1] at C1
    go_enter Try.func29, Try.ntmps29
    go_wp2_with fail
    refine (C1.out _ H.out).mono ?_
    rintro e w1 ⟨rfl, hb1⟩
    go_wp2
    go_ret
    rw [HU.out]
    exact ⟨none, 0, rfl, RdC.nil _, hb1⟩
  · rw [h1] at C1
    have HR := hid (rgn_iff.1 h1)
    obtain ⟨nx, hnx⟩ : ∃ nx, IntKind.i64.wrap (-x) = nx := ⟨_, rfl⟩
    obtain ⟨ny, hny⟩ : ∃ ny, IntKind.i64.wrap (-y) = ny := ⟨_, rfl⟩
    have HNX : Hid ((x = -9223372036854775808 → nx = x) ∧ (x ≠ -9223372036854775808 → nx = -x)) := by rw [← hnx, IntKind.wrap_i64]; exact ⟨fun h => by omega, fun h => by omega⟩
    have HNY : Hid ((y = -9223372036854775808 → ny = y) ∧ (y ≠ -9223372036854775808 → ny = -y)) := by rw [← hny, IntKind.wrap_i64]; exact ⟨fun h => by omega, fun h => by omega⟩
    obtain ⟨M, hM⟩ : ∃ M : Int, M = (if ny > (if y > (if nx > x then nx else x) then y else (if nx > x then nx else x)) then ny else (if y > (if nx > x then nx else x) then y else (if nx > x then nx else x))) := ⟨_, rfl⟩
    have hmx : ∀ u : World, (Builtin.max_ #[3, 3, 3, 3] 3 #[.int .i64 x, .int .i64 nx, .int .i64 y, .int .i64 ny]).run Try.prog u = .ok (.int .i64 M) u := fun u => by
      rw [hM]
      simp [Builtin.max_, Builtin.max2]
    have HM : Hid (x ≤ M ∧ nx ≤ M ∧ y ≤ M ∧ ny ≤ M ∧ (M = x ∨ M = nx ∨ M = y ∨ M = ny)) := by rw [Hid, hM]; omega
    clear hM
    have hnil : ∀ u, (far x = true ∨ far y = true) → Below w.heap.size w u → Ret w (shf l x y) (.returned (.slice none 0 0)) u := fun u hf hb => by
      rw [shf, if_neg (by rintro ⟨_, g1, g2⟩; rcases hf with hf | hf <;> simp_all)]
      exact ⟨none, 0, rfl, RdC.nil _, hb⟩
    have HN := hid hnil
    clear hnil
    go_enter Try.func29, Try.ntmps29
    go_wp2_with fail
    refine (C1.out _ H.out).mono ?_
    rintro e w1 ⟨rfl, hb1⟩
    have HB1 := hid hb1
    clear hb1
    cases eM : decide (16777216 < M)
    · cases eX : (x == -9223372036854775808)
      · cases eY : (y == -9223372036854775808)
        · have hxy : (-16777216 ≤ x ∧ x ≤ 16777216) ∧ (-16777216 ≤ y ∧ y ≤ 16777216) := by
            have h1 := of_decide_eq_false eM
            have h2 : x ≠ -9223372036854775808 := by simpa using eX
            have h3 : y ≠ -9223372036854775808 := by simpa using eY
            have h4 := HM.out
            have h5 := HNX.out.2 h2
            have h6 := HNY.out.2 h3
            omega
          obtain ⟨hx2, hy2⟩ := hxy
          have HU : Hid (shf l x y = mk fst1 (shl l x y) []) := by rw [Hid, shf, if_pos ⟨h1, far_not hx2, far_not hy2⟩]
          have HOK := hid (shf_ok l x y)
          obtain ⟨i0, hi, hz0, hz1, hz2⟩ := info3 infoC
          clear HM HNX HNY HN
          go_wp2
          go_loopw [7, 8] (fun s7 s8 wr => ∃ j : Nat, s8 = .int .i64 j ∧ j ≤ n ∧ OwC w wr s7 (shl (l.take j) x y)) (fun _ s8 _ => n - (numOf s8).toNat)
          case atStart => exact ⟨0, rfl, by omega, ⟨World.ownsRow_nil _ _ _ _, HB1.out⟩⟩
          case round =>
            obtain ⟨j, rfl, hj, hO⟩ := hrel
            have HO := hid hO
            clear hO HB1
            by_cases hgo : j < n
            · have e1 : decide ((j : Int) < n) = true := decide_eq_true (by omega)
              have e2 : (j : Int) < n := by omega
              obtain ⟨b, off, r, hbo, _, hr, _, he⟩ := (H.out.on HO.out.bel).el hgo
              subst hbo
              obtain ⟨_, c0, c1, c2, c3⟩ := he
              have k := HR.out.ck r (List.mem_of_getElem? hr)
              have ksh : (sh r x y).Ok := by
                rw [sh, if_neg (by rw [k.emp]; decide)]
                obtain ⟨k1, k2, k3, k4, k5, k6⟩ := k
                exact ⟨by simp only; omega, by simp only; omega, by simp only; omega, by simp only; omega⟩
              have CS := hid (fun u => rshift_any r x y (fun _ => by obtain ⟨k1, k2, k3, k4, k5, k6⟩ := k; omega) (fun _ => by obtain ⟨k1, k2, k3, k4, k5, k6⟩ := k; omega) u)
              have CB := hid (fun u => rbound_any (sh r x y) ksh u)
              have HS := hid (shl_snoc hr x y)
              have hlen : (shl (l.take j) x y).length ≤ 4096 := Nat.le_trans (shl_length _ x y) (by rw [List.length_take]; omega)
              have HQ := hid (bnd_any_ok (sh r x y))
              clear k ksh hr
              generalize bnd (sh r x y) = q at CB HS HQ
              have CE := hid (fun u => rempty_any q u)
              go_wp2_with fail
              refine (CS.out _).mono ?_
              rintro e w4 ⟨rfl, hb4⟩
              go_wp2_with fail
              refine (CB.out _).mono ?_
              rintro e w5 ⟨rfl, hb5⟩
              have HX := hid (bx_new w5 q)
              have HO2 := hid (((HO.out.on hb4).on hb5).on (below_new w5 (ob q)))
              rw [ob] at HO2
              clear hb4 hb5 CS CB HO
              cases heq : emp q
              · rw [heq] at CE
                rw [heq, if_neg (by decide)] at HS
                go_wp2_with fail
                refine (CE.out _).mono ?_
                rintro e w6 ⟨rfl, hb6⟩
                have hX6 : Bx w6 w5.heap.size q := HX.out.on hb6
                obtain ⟨d0, d1, d2, d3⟩ := hX6.all
                have HOA := hid ((HO2.out.on hb6).on (below_new w6 (ob q)))
                rw [ob] at HOA
                have HSR := hid ((rdc_lit w6 q HQ.out).src (P := Try.prog) (t := 22) Try.underlying22)
                clear hb6 HX HO2 hX6
                go_wp2_with (at_builtin; refine wpList_append_own_src _ rfl (.tmp 48) (.tmp 50) 22 22 rfl w.heap.size 24 i0 (.agg #[.int .i64 0, .int .i64 0, .int .i64 0, .int .i64 0]) 4 32 Try.underlying22 hi hz0 hz1 hz2 rfl _ _ _ rfl HOA.out.own _ _ _ rfl HSR.out (by simp only [maxLen]; omega) (fits32 (by omega)) HOA.out.size ?_; intro v9 w9 o9 g9; have H9 := hid (HOA.out.grown (m := [q]) o9 g9); clear o9 g9 HOA HSR)
                go_wp2
                go_roundw
                case rel => exact ⟨j + 1, by go_num, by omega, by rw [HS.out]; exact H9.out⟩
                case measure => simp [numOf]; omega
              · rw [heq] at CE
                rw [heq, if_pos rfl, List.append_nil] at HS
                go_wp2_with fail
                refine (CE.out _).mono ?_
                rintro e w6 ⟨rfl, hb6⟩
                have HO6 := hid (HO2.out.on hb6)
                clear hb6 HX HO2
                go_wp2
                go_roundw
                case rel => exact ⟨j + 1, by go_num, by omega, by rw [HS.out]; exact HO6.out⟩
                case measure => simp [numOf]; omega
            · have e1 : decide ((j : Int) < n) = false := decide_eq_false (by omega)
              have HE : Hid (l.take j = l) := List.take_of_length_le (by rw [HL.out]; omega)
              rw [HE.out] at HO
              have HBS := hid (shl_bands HR.out.bands x y)
              have hlen : (shl l x y).length ≤ 4096 := Nat.le_trans (shl_length l x y) (by rw [HL.out]; exact hn)
              obtain ⟨a4, c4, rfl, r4⟩ := rdc_of_owns HO.out.own (fun r hr => (HBS.out.ck r hr).ok)
              have CC := hid (rmake1_any a4 none (shl l x y).length c4 0 0 (shl l x y) [] 0 wr r4 (RdC.nil wr) HBS.out.ck (by simp) (by omega))
              rw [fH0, ← mk_alone HBS.out.ck, ← HU.out] at CC
              clear r4
              go_wp2_with fail
              refine CC.out.mono ?_
              rintro e w5 ⟨v5, rfl, h5⟩
              have H5 := hid ((h5.base HO.out.bel).ret HOK.out)
              clear h5
              go_wp2
              go_ret
              exact H5.out
        · have hf : far x = true ∨ far y = true := Or.inr (far_yes (by rw [show y = -9223372036854775808 by simpa using eY]; decide))
          go_wp2
          go_ret
          exact HN.out _ hf HB1.out
      · have hf : far x = true ∨ far y = true := Or.inl (far_yes (by rw [show x = -9223372036854775808 by simpa using eX]; decide))
        go_wp2
        go_ret
        exact HN.out _ hf HB1.out
    · have hf : far x = true ∨ far y = true := by
        have h1 := of_decide_eq_true eM
        have h4 := HM.out
        have h5 := HNX.out
        have h6 := HNY.out
        by_cases g : x < -16777216 ∨ 16777216 < x
        · exact Or.inl (far_yes g)
        · exact Or.inr (far_yes (by omega))
      go_wp2
      go_ret
      exact HN.out _ hf HB1.out
end Go.Proofs.Ytklghdagehbfeaa
