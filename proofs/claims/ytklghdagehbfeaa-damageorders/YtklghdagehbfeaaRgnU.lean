/- The contracts of the program's tooFar and Shift. -/
import Derived.Test.YtklghdagehbfeaaRgnT
namespace Go.Proofs.Ytklghdagehbfeaa
open Go Go.RowKit

def far (n : Int) : Bool := decide (n < -16777216) || decide (16777216 < n)

set_option maxRecDepth 100000 in
theorem toofar_any (n : Int) (w : World) : Calls Try.prog 44 #[.int .i64 n] w fun e w' => e = .returned (.bool (far n)) ∧ w' = w := by
  unfold far
  cases h : decide (n < -16777216)
  all_goals
    go_enter Try.func44, Try.ntmps44
    go_wp2
    go_ret
    exact ⟨rfl, rfl⟩

theorem far_no {n : Int} (h : far n = false) : -16777216 ≤ n ∧ n ≤ 16777216 := by
  simp [far] at h
  omega

/-- A region, moved. -/
def shf (l : List Rc) (x y : Int) : List Rc := if rgn l = true ∧ far x = false ∧ far y = false then mk fst1 (shl l x y) [] else []
theorem shf_ok (l : List Rc) (x y : Int) : ∀ r ∈ shf l x y, r.Ok := fun r hr => by
  unfold shf at hr
  split at hr
  · rename_i h
    exact ((mk_all (f := fst1) rfl (shl_bands (rgn_iff.1 h.1).bands x y).ck (by simp)).1.ck r hr).ok
  · cases hr
/-- The first j moved. -/
def mvd (l : List Rc) (x y : Int) (j : Nat) : List Rc := (l.take j).map (fun r => bnd (sh r x y)) ++ l.drop j
theorem mvd_len (l : List Rc) (x y : Int) (j : Nat) : (mvd l x y j).length = l.length := by
  rw [mvd, List.length_append, List.length_map, ← List.length_append, List.take_append_drop]
theorem mvd_at {l : List Rc} {x y : Int} {j : Nat} {r : Rc} (h : l[j]? = some r) : (mvd l x y j)[j]? = some r := by
  have hj : j < l.length := (List.getElem?_eq_some_iff.1 h).1
  have hl : ((l.take j).map (fun r => bnd (sh r x y))).length = j := by simp; omega
  rw [mvd, List.getElem?_append_right (by omega), hl, Nat.sub_self, List.getElem?_drop, Nat.add_zero]
  exact h
theorem mvd_set {l : List Rc} {x y : Int} {j : Nat} {r : Rc} (h : l[j]? = some r) : (mvd l x y j).set j (bnd (sh r x y)) = mvd l x y (j + 1) := by
  have hj : j < l.length := (List.getElem?_eq_some_iff.1 h).1
  have hl : ((l.take j).map (fun r => bnd (sh r x y))).length = j := by simp; omega
  rw [mvd, List.set_append_right _ _ (by omega), hl, Nat.sub_self, drop_at h, List.set_cons_zero, mvd, List.take_add_one, h]
  simp
theorem bnd_any_ok (r : Rc) : (bnd r).Ok := by
  rcases bnd_cases r with h | h
  · cases he : emp r
    · rw [bnd_full he, oft]
      split
      · exact rz_ok
      · rename_i hh
        rw [bnd_full he, oft, if_neg hh] at h
        simp [emp] at h
        omega
    · rw [bnd_emp he]; exact rz_ok
  · exact h.ok
theorem flt_shl (l : List Rc) (x y : Int) : flt (mvd l x y l.length) = shl l x y := by
  rw [mvd, List.take_length, List.drop_length, List.append_nil]
  rfl

set_option maxRecDepth 100000 in
set_option maxHeartbeats 1000000 in
theorem shiftreg_any (a : Option Addr) (n c : Nat) (l : List Rc) (x y : Int) (w : World) (h : RdC w a n c l) (hn : n ≤ 4096) :
    Calls Try.prog 28 #[.slice a n c, .int .i64 x, .int .i64 y] w (Ret w (shf l x y)) := by
  have H := hid h
  have HL := hid h.len
  have hs := h.small
  have C1 := hid (fun u hu => regcheck_any a n c l u hu)
  have CX := hid (fun u => toofar_any x u)
  have CY := hid (fun u => toofar_any y u)
  have HOK := hid (shf_ok l x y)
  obtain ⟨i0, hi, hz0, hz1, hz2⟩ := info3 infoC
  clear h
  cases h1 : rgn l
  · have HU : Hid (shf l x y = []) := by rw [Hid, shf, if_neg (by rw [h1]; simp)]
    rw [h1] at C1
    go_enter Try.func28, Try.ntmps28
    go_wp2_with fail
    refine (C1.out _ H.out).mono ?_
    rintro e w1 ⟨rfl, hb1⟩
    go_wp2
    go_ret
    rw [HU.out]
    exact ⟨none, 0, rfl, RdC.nil _, hb1⟩
  · rw [h1] at C1
    cases hfx : far x
    · rw [hfx] at CX
      cases hfy : far y
      · rw [hfy] at CY
        have HU : Hid (shf l x y = mk fst1 (shl l x y) []) := by rw [Hid, shf, if_pos ⟨h1, hfx, hfy⟩]
        have HR := hid (rgn_iff.1 h1)
        have hx2 := far_no hfx
        have hy2 := far_no hfy
        go_enter Try.func28, Try.ntmps28
        go_wp2_with fail
        refine (C1.out _ H.out).mono ?_
        rintro e w1 ⟨rfl, hb1⟩
        have HB1 := hid hb1
        clear hb1
        go_wp2_with fail
        refine (CX.out _).mono ?_
        rintro e w1 ⟨rfl, rfl⟩
        go_wp2_with fail
        refine (CY.out _).mono ?_
        rintro e w1 ⟨rfl, rfl⟩
        go_wp2_with (at_make; refine wpList_make_full _ rfl _ _ 22 rfl w.heap.size 24 i0 (.agg #[.int .i64 0, .int .i64 0, .int .i64 0, .int .i64 0]) 4 Try.underlying22 hi hz0 hz1 .i64 .i64 _ _ n rfl rfl (by omega) (by omega) (by rw [hz2]; omega) (by unfold maxLen; omega) HB1.out.size ?_; intro w3 own3 grow3)
        have hB3 : Below w.heap.size w w3 := HB1.out.grown grow3 HB1.out.size (fun k h => by cases h)
        obtain ⟨u', hcp, hO⟩ := copy_own own3 hB3 (H.out.on hB3)
        have HO := hid hO
        clear own3 grow3 hO hB3 HB1
        generalize w1.heap.size = g at hcp HO ⊢
        go_wp2
        rw [hcp]
        clear hcp
        go_wp2
        go_loopw [30] (fun i wr => ∃ j : Nat, i = .int .i64 j ∧ j ≤ n ∧ OwC w wr (.slice (some ⟨g, 0, none⟩) n n) (mvd l x y j)) (fun i _ => n - (numOf i).toNat)
        case atStart => exact ⟨0, rfl, by omega, HO.out⟩
        case round =>
          obtain ⟨j, rfl, hj, hO⟩ := hrel
          have HO2 := hid hO
          clear hO HO
          have HML : Hid ((mvd l x y j).length = n) := by rw [Hid, mvd_len]; exact HL.out
          by_cases hgo : j < n
          · have e1 : decide ((j : Int) < n) = true := decide_eq_true (by omega)
            have e2 : (j : Int) < n := by omega
            obtain ⟨r, hr⟩ : ∃ r, l[j]? = some r := ⟨_, List.getElem?_eq_getElem (by rw [HL.out]; exact hgo)⟩
            have k := HR.out.ck r (List.mem_of_getElem? hr)
            have ksh : (sh r x y).Ok := by
              rw [sh, if_neg (by rw [k.emp]; decide)]
              obtain ⟨k1, k2, k3, k4, k5, k6⟩ := k
              exact ⟨by simp only; omega, by simp only; omega, by simp only; omega, by simp only; omega⟩
            have CS := hid (fun u => shift_any r x y (fun _ => by obtain ⟨k1, k2, k3, k4, k5, k6⟩ := k; omega) (fun _ => by obtain ⟨k1, k2, k3, k4, k5, k6⟩ := k; omega) u)
            have CB := hid (fun u => bound_any (sh r x y) ksh u)
            obtain ⟨g1, g2, g3⟩ := HO2.out.el HML.out
            obtain ⟨_, c0, c1, c2, c3⟩ := g3 j r (mvd_at hr)
            have HS := hid (mvd_set (x := x) (y := y) hr)
            have HO3 := hid (HO2.out.on (below_new wr (ob r)))
            rw [ob] at HO3
            clear g3 k ksh HO2
            go_wp2_with fail
            refine (CS.out _).mono ?_
            rintro e w4 ⟨rfl, hb4⟩
            go_wp2_with fail
            refine (CB.out _).mono ?_
            rintro e w5 ⟨rfl, hb5⟩
            have HO4 := (HO3.out.on hb4).on hb5
            obtain ⟨_, _, g4⟩ := HO4.el HML.out
            obtain ⟨_, d0, d1, d2, d3⟩ := g4 j r (mvd_at hr)
            have fz := HO4.fz HML.out
            have HO5 := hid (HO4.sto HML.out hgo (bnd (sh r x y)))
            rw [HS.out] at HO5
            clear HO4 g4 hb4 hb5 HO3 CS CB HS hr
            go_wp2
            go_roundw
            case rel => exact ⟨j + 1, by go_num, by omega, HO5.out⟩
            case measure => simp [numOf]; omega
          · have e1 : decide ((j : Int) < n) = false := decide_eq_false (by omega)
            obtain rfl : j = n := by omega
            have HMO : Hid (∀ r ∈ mvd l x y j, r.Ok) := fun r hr => by
              rw [mvd, List.drop_eq_nil_of_le (by rw [HL.out]; exact Nat.le_refl _), List.append_nil] at hr
              obtain ⟨q, _, rfl⟩ := List.mem_map.1 hr
              exact bnd_any_ok _
            have HFS : Hid (flt (mvd l x y j) = shl l x y) := by
              have := flt_shl l x y
              rw [HL.out] at this
              exact this
            have CD := hid (deletefunc_any g j j (mvd l x y j) w wr HO2.out HML.out HMO.out)
            rw [HFS.out] at CD
            have HBS := hid (shl_bands HR.out.bands x y)
            have hlen : (shl l x y).length ≤ 4096 := Nat.le_trans (shl_length l x y) (by rw [HL.out]; exact hn)
            clear HO2 HMO HFS
            go_wp2_with fail
            refine CD.out.mono ?_
            rintro e w4 ⟨v4, rfl, h4⟩
            obtain ⟨a4, c4, rfl, r4⟩ := rdc_of_owns h4.own (fun r hr => (HBS.out.ck r hr).ok)
            have CC := hid (combine_any a4 none (shl l x y).length c4 0 0 (shl l x y) [] 47 fst1 w4 r4 (RdC.nil w4) HBS.out ⟨by simp, by simp⟩ rfl fn_fst (by omega))
            have HB4 := hid h4.bel
            rw [← HU.out] at CC
            clear h4 r4 CD
            go_wp2_with fail
            refine CC.out.mono ?_
            rintro e w5 ⟨v5, rfl, h5⟩
            have H5 := hid ((h5.base HB4.out).ret HOK.out)
            clear h5
            go_wp2
            go_ret
            exact H5.out
      · rw [hfy] at CY
        have HU : Hid (shf l x y = []) := by rw [Hid, shf, if_neg (by rw [hfy]; simp)]
        go_enter Try.func28, Try.ntmps28
        go_wp2_with fail
        refine (C1.out _ H.out).mono ?_
        rintro e w1 ⟨rfl, hb1⟩
        go_wp2_with fail
        refine (CX.out _).mono ?_
        rintro e w1 ⟨rfl, rfl⟩
        go_wp2_with fail
        refine (CY.out _).mono ?_
        rintro e w1 ⟨rfl, rfl⟩
        go_wp2
        go_ret
        rw [HU.out]
        exact ⟨none, 0, rfl, RdC.nil _, hb1⟩
    · rw [hfx] at CX
      have HU : Hid (shf l x y = []) := by rw [Hid, shf, if_neg (by rw [hfx]; simp)]
      go_enter Try.func28, Try.ntmps28
      go_wp2_with fail
      refine (C1.out _ H.out).mono ?_
      rintro e w1 ⟨rfl, hb1⟩
      go_wp2_with fail
      refine (CX.out _).mono ?_
      rintro e w1 ⟨rfl, rfl⟩
      go_wp2
      go_ret
      rw [HU.out]
      exact ⟨none, 0, rfl, RdC.nil _, hb1⟩
end Go.Proofs.Ytklghdagehbfeaa
