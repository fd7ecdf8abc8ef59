/- CanvasFills: for every two colours and four numbers the call returns true; nothing that was there has turned. -/
import Derived.Test.YtldnggokkkhihaaDoorCanH
import Derived.Test.YtldnggokkkhihaaDoorPixD
import Derived.Test.YtldnggokkkhihaaDoorLibP
import Derived.Test.YtldnggokkkhihaaDoorLibS
import Derived.LaidMore
namespace Go.Proofs.YtldnggokkkhihaaDoor.canvasFills
open Go Go.RowKit

theorem wfi {z : Int} (h : (Lit.int .i64 z).wf = true) : -9223372036854775808 ≤ z ∧ z ≤ 9223372036854775807 := by simpa [Lit.wf, IntKind.min, IntKind.max, IntKind.signed, IntKind.bits] using h
theorem wfu {z : Int} (h : (Lit.int .u32 z).wf = true) : Col z := by
  simp [Lit.wf, IntKind.min, IntKind.max, IntKind.signed, IntKind.bits] at h
  unfold Col
  omega

def all : Rc := ⟨-9, -9, 50, 50⟩
theorem all_ck : Ck all := ⟨by decide, by decide, by decide, by decide, by decide, by decide⟩
theorem in_all {u v : Nat} (hu : u < 12) (hv : v < 9) : inC [all] u v = true := by
  rw [inC_one all_ck, has_iff]
  simp only [all]
  omega
theorem filled {a : Int} : fll 12 a [all] (List.replicate (12 * 9) 0) = List.replicate (12 * 9) a := by
  refine (trn_ext (W := 12) (H := 9) List.length_replicate List.length_replicate fun u v hu hv => ?_).symm
  rw [List.getElem?_replicate, if_pos (place_lt hu hv), List.getElem?_replicate, if_pos (place_lt hu hv), Option.map_some, in_all hu hv]
  rfl

/-- What a point is behind all. -/
def val (a c i j : Int) (p q : Nat) (u v : Int) : Int := if i ≤ u ∧ u < i + p ∧ j ≤ v ∧ v < j + q then ovr a c else a

theorem drawn {a c i j : Int} {p q : Nat} (hi : -5 ≤ i ∧ i ≤ 14) (hj : -5 ≤ j ∧ j ≤ 14) (hp : 1 ≤ p ∧ p ≤ 8) (hq : 1 ≤ q ∧ q ≤ 8) {u v : Nat} (hu : u < 12) (hv : v < 9) :
    atv 12 9 (drw 12 i j p q (List.replicate (p * q) c) [all] (List.replicate (12 * 9) a)) u v = val a c i j p q u v := by
  have hok : okD i j p q = true := by
    simp only [okD, Bool.and_eq_true, decide_eq_true_eq]
    omega
  refine atv_at hu hv ?_
  rw [drw_get hok hu, List.getElem?_replicate, if_pos (place_lt hu hv), in_all hu hv, Bool.and_true, Option.map_some]
  congr 1
  unfold val
  by_cases h : i ≤ (u : Int) ∧ (u : Int) < i + p ∧ j ≤ (v : Int) ∧ (v : Int) < j + q
  · rw [if_pos h, has_iff.2 (by dsimp only; omega), if_pos rfl]
    have hk : kk i j p u v < p * q := by
      obtain ⟨s, hs⟩ : ∃ s : Nat, (u : Int) - i = s := ⟨((u : Int) - i).toNat, by omega⟩
      obtain ⟨t, ht⟩ : ∃ t : Nat, (v : Int) - j = t := ⟨((v : Int) - j).toNat, by omega⟩
      have e : ((v : Int) - j) * p + u - i = ((t * p + s : Nat) : Int) := by
        rw [ht, Int.natCast_add, Int.natCast_mul]
        omega
      rw [kk, e, Int.toNat_natCast]
      exact place_lt (by omega) (by omega)
    rw [gD, List.getElem?_replicate, if_pos hk]
  · rw [if_neg h]
    have : has ⟨i, j, p, q⟩ (u : Int) (v : Int) = false := by
      rw [Bool.eq_false_iff]
      intro h'
      apply h
      have := has_iff.1 h'
      dsimp only at this
      omega
    rw [this]
    rfl

set_option maxRecDepth 100000 in
set_option maxHeartbeats 4000000 in
theorem walk (a0 a1 a2 a3 a4 a5 : Int) (w : World) (w0 : (Lit.int .u32 a0).wf = true) (w1 : (Lit.int .u32 a1).wf = true) (w2 : (Lit.int .i64 a2).wf = true) (w3 : (Lit.int .i64 a3).wf = true) (w4 : (Lit.int .i64 a4).wf = true) (w5 : (Lit.int .i64 a5).wf = true) (_hL : laidMetH Tryd.prog Rows.canvasFillsRow.laid w) :
    Calls Tryd.prog 6 #[.int .u32 a0, .int .u32 a1, .int .i64 a2, .int .i64 a3, .int .i64 a4, .int .i64 a5] w fun e w' => e = .returned (.bool true) ∧ Below w.heap.size w w' := by
  have ha := wfu w0
  have hc := wfu w1
  have HP2 : Hid (∀ u, Calls Tryd.prog 12 #[.int .i64 a2, .int .i64 20] u fun e w' => e = .returned (.int .i64 (plc a2 20 : Nat)) ∧ w' = u) := fun u => place_any a2 20 (wfi w2) (by omega) (by omega) u
  have HP3 : Hid (∀ u, Calls Tryd.prog 12 #[.int .i64 a3, .int .i64 20] u fun e w' => e = .returned (.int .i64 (plc a3 20 : Nat)) ∧ w' = u) := fun u => place_any a3 20 (wfi w3) (by omega) (by omega) u
  have HP4 : Hid (∀ u, Calls Tryd.prog 12 #[.int .i64 a4, .int .i64 8] u fun e w' => e = .returned (.int .i64 (plc a4 8 : Nat)) ∧ w' = u) := fun u => place_any a4 8 (wfi w4) (by omega) (by omega) u
  have HP5 : Hid (∀ u, Calls Tryd.prog 12 #[.int .i64 a5, .int .i64 8] u fun e w' => e = .returned (.int .i64 (plc a5 8 : Nat)) ∧ w' = u) := fun u => place_any a5 8 (wfi w5) (by omega) (by omega) u
  have b2 := plc_lt a2 20 (by omega)
  have b3 := plc_lt a3 20 (by omega)
  have b4 := plc_lt a4 8 (by omega)
  have b5 := plc_lt a5 8 (by omega)
  generalize plc a2 20 = m2 at *
  generalize plc a3 20 = m3 at *
  generalize plc a4 8 = m4 at *
  generalize plc a5 8 = m5 at *
  obtain ⟨i, ei⟩ : ∃ i : Int, (m2 : Int) - 5 = i := ⟨_, rfl⟩
  obtain ⟨j, ej⟩ : ∃ j : Int, (m3 : Int) - 5 = j := ⟨_, rfl⟩
  obtain ⟨p, hp⟩ : ∃ p, 1 + m4 = p := ⟨_, rfl⟩
  obtain ⟨q, hq⟩ : ∃ q, 1 + m5 = q := ⟨_, rfl⟩
  have ep : (1 : Int) + (m4 : Int) = (p : Int) := by omega
  have eq : (1 : Int) + (m5 : Int) = (q : Int) := by omega
  have hi : -5 ≤ i ∧ i ≤ 14 := by omega
  have hj : -5 ≤ j ∧ j ≤ 14 := by omega
  have hp1 : 1 ≤ p ∧ p ≤ 8 := by omega
  have hq1 : 1 ≤ q ∧ q ≤ 8 := by omega
  obtain ⟨n, hn⟩ : ∃ n, p * q = n := ⟨_, rfl⟩
  have hn1 : n ≤ 64 := by rw [← hn]; exact Nat.mul_le_mul hp1.2 hq1.2
  have m1' : (p : Int) * (q : Int) = (n : Int) := by rw [← hn, Int.natCast_mul]
  have HAT : Hid (∀ u v : Nat, u < 12 → v < 9 → atv 12 9 (drw 12 i j p q (List.replicate n a1) [all] (List.replicate (12 * 9) a0)) u v = val a0 a1 i j p q u v) := fun u v hu hv => by
    rw [← hn]
    exact drawn hi hj hp1 hq1 hu hv
  have CN : Hid (Calls Tryd.prog 7 #[.int .i64 12, .int .i64 9] w (Own 55 w 12 9 (List.replicate (12 * 9) 0) fun v => .tuple #[v, .nilIface])) := cnew_any w 12 9 (by omega) (by omega)
  obtain ⟨i0, hi0, hz0, hz1, hz2⟩ := info32p
  clear w0 w1 w2 w3 w4 w5 _hL hp hq b2 b3 b4 b5
  go_enter Tryd.func6, Tryd.ntmps6
  go_wp2_with fail
  refine CN.out.mono ?_
  rintro e x1 ⟨p', b, rfl, hb1, hC, hp', hb'⟩
  have HC1 := hid hC
  have HB1 := hid hb1
  clear hC hb1 CN
  go_wp2_with fail
  refine (HP2.out _).mono ?_
  rintro e x2 ⟨rfl, rfl⟩
  go_wp2_with fail
  refine (HP3.out _).mono ?_
  rintro e x3 ⟨rfl, rfl⟩
  go_wp2_with fail
  refine (HP4.out _).mono ?_
  rintro e x4 ⟨rfl, rfl⟩
  go_wp2_with fail
  refine (HP5.out _).mono ?_
  rintro e x5 ⟨rfl, rfl⟩
  clear HP2 HP3 HP4 HP5
  go_wp2_with fail
  have hb6 : Below x5.heap.size x5 (x5.alloc (.cells #[.int .i64 (-9), .int .i64 (-9), .int .i64 50, .int .i64 50] 44)) := below_new x5 _
  have HR6 : Hid (RdC (x5.alloc (.cells #[.int .i64 (-9), .int .i64 (-9), .int .i64 50, .int .i64 50] 44)) (some ⟨x5.heap.size, 0, none⟩) 1 1 [all]) := rdc_lit x5 all all_ck.ok
  refine (cfill_any (HC1.out.on hb6) a0 ha _ 1 1 [all] HR6.out (by omega)).mono ?_
  rintro e x6 ⟨rfl, hC6, hk6⟩
  have l1 := (HC1.out.on hb6).lt
  rw [filled] at hC6
  have HB5 := hid (Below.on HB1.out hb6)
  have HB6 := hid (bel_kp HB5.out hk6 HB5.out.size (fun k hk => by simp only [List.mem_cons, List.not_mem_nil, or_false] at hk; omega))
  have HRX : Hid (RdC x6 (some ⟨x5.heap.size, 0, none⟩) 1 1 [all]) := HR6.out.kept hk6 (fun i z h => (HC1.out.on hb6).no64 h)
  have HC6 := hid hC6
  have hl6 := hC6.lt
  clear hC6 hk6 hb6 HR6 HC1 HB1 HB5
  go_wp2
  go_loopw [20, 21] (fun v t wr => ∃ k : Nat, t = .int .i64 k ∧ k ≤ n ∧ wr.ownsRow x6.heap.size 35 1 v k ((List.replicate k a1).map e32) ∧ RowKit.Below x6.heap.size x6 wr) (fun _ t _ => n - (numOf t).toNat)
  case atStart => exact ⟨0, rfl, Nat.zero_le _, World.ownsRow_nil x6 x6.heap.size 35 1, Below.refl _ _⟩
  case round =>
    obtain ⟨k, rfl, hk, hO, hb⟩ := hrel
    have HO := hid hO
    have HB := hid hb
    clear hO hb
    by_cases hgo : k < n
    · have e1 : decide ((k : Int) < n) = true := decide_eq_true (by omega)
      have HA : Hid (∀ v' w', w'.ownsRow x6.heap.size 35 1 v' (k + 1) ((List.replicate k a1).map e32 ++ [.int .u32 a1]) → (wr.alloc (.cells #[.int .u32 a1] 35)).grownBy w' u20.ownBlock → w'.ownsRow x6.heap.size 35 1 v' (k + 1) ((List.replicate (k + 1) a1).map e32) ∧ RowKit.Below x6.heap.size x6 w') := fun v' w' o g => by
        refine ⟨by rw [List.replicate_succ', List.map_append]; exact o, (HB.out.alloc HB.out.size _).grown g (by rw [World.size_alloc]; have := HB.out.size; omega) (fun k hk => (HO.out.lt k hk).1)⟩
      have HSR : Hid (Src Tryd.prog 1 36 (.slice (some ⟨wr.heap.size, 0, none⟩) 1 1) 1 [.int .u32 a1] (wr.alloc (.cells #[.int .u32 a1] 35))) :=
        Src.ofSlice (P := Tryd.prog) _ Tryd.underlying36 ⟨wr.heap.size, 0, none⟩ 1 1 [.int .u32 a1] rfl (fun q u hu => by
          match q, hu with
          | 0, hu => cases hu; simp [Addr.add]
          | q + 1, hu => simp at hu) (by simp [Value.oneCell'])
      have HOW := hid (HO.out.alloc (.cells #[.int .u32 a1] 35))
      have hsz2 : x6.heap.size ≤ (wr.alloc (.cells #[.int .u32 a1] 35)).heap.size := by rw [World.size_alloc]; have := HB.out.size; omega
      clear HO HB
      go_wp2_with (at_builtin; refine wpList_append_own_src _ rfl (.tmp 56) (.tmp 58) 36 36 rfl x6.heap.size 35 i0 (.int .u32 0) 1 4 Tryd.underlying36 hi0 hz0 hz1 hz2 rfl _ _ _ rfl HOW.out _ _ _ rfl HSR.out (by simp only [maxLen]; omega) (fits4 (by omega)) hsz2 ?_; intro v3 w3 o3 g3; obtain ⟨o4, b4⟩ := HA.out _ _ o3 g3; clear o3 g3 HA HOW HSR)
      go_wp2
      go_roundw
      case rel => exact ⟨k + 1, by go_num, by omega, o4, b4⟩
      case measure => simp [numOf]; omega
    · have e1 : decide ((k : Int) < n) = false := decide_eq_false (by omega)
      obtain rfl : k = n := by omega
      obtain ⟨a', c', rfl, hRd, hab⟩ := rdw_of_owns HO.out (fun z hz => by rw [List.eq_of_mem_replicate hz]; exact hc)
      have HRd := hid hRd
      have HAB : Hid (∀ x, a' = some x → x.block ≠ b) := fun x hx => by have := (hab x hx).1; omega
      have CD := hid (cdraw_any (HC6.out.on HB.out) i j p q (by rw [I64]; omega) (by rw [I64]; omega) (by rw [I64]; omega) (by rw [I64]; omega) a' k c' (List.replicate k a1) hRd (by omega) HAB.out (some ⟨x5.heap.size, 0, none⟩) 1 1 [all] (HRX.out.on HB.out) (by omega))
      clear hRd hab HO HRd HAB HRX
      go_wp2_with fail
      refine CD.out.mono ?_
      rintro e x7 ⟨rfl, hC7, hk7⟩
      have HBw := hid (Below.on HB6.out HB.out)
      have HB7 := hid (bel_kp HBw.out hk7 HBw.out.size (fun k hk => by simp only [List.mem_cons, List.not_mem_nil, or_false] at hk; omega))
      have HC7 := hid hC7
      clear hC7 hk7 HBw HB6 HB HC6 CD
      generalize drw 12 i j p q (List.replicate k a1) [all] (List.replicate (12 * 9) a0) = M at *
      clear hn hn1 m1' hk hgo e1 l1 hl6 hz0 hz1 hz2 hi0
      go_wp2
      go_loopw [22] (fun t wr2 => ∃ v : Nat, t = .int .i64 v ∧ v ≤ 9 ∧ Cv 55 wr2 p' b 12 9 M ∧ RowKit.Below w.heap.size w wr2) (fun t _ => 9 - (numOf t).toNat)
      case atStart => exact ⟨0, rfl, by omega, HC7.out, HB7.out⟩
      case round =>
        obtain ⟨v, rfl, hv, hC8, hB8⟩ := hrel
        have HC8 := hid hC8
        have HB8 := hid hB8
        clear hC8 hB8 HC7 HB7
        by_cases hgv : v < 9
        · have e1 : decide ((v : Int) < 9) = true := decide_eq_true (by omega)
          go_wp2
          go_loopw [23] (fun t wr3 => ∃ u : Nat, t = .int .i64 u ∧ u ≤ 12 ∧ Cv 55 wr3 p' b 12 9 M ∧ RowKit.Below w.heap.size w wr3) (fun t _ => 12 - (numOf t).toNat)
          case atStart => exact ⟨0, rfl, by omega, HC8.out, HB8.out⟩
          case round =>
            obtain ⟨u, rfl, hu, hC9, hB9⟩ := hrel
            have HC9 := hid hC9
            have HB9 := hid hB9
            clear hC9 hB9 HC8 HB8
            by_cases hgu : u < 12
            · have e2 : decide ((u : Int) < 12) = true := decide_eq_true (by omega)
              have HV := hid (HAT.out u v hgu hgv)
              have n1 : (a0 != a0) = false := by simp
              have n2 : (ovr a0 a1 != ovr a0 a1) = false := by simp
              have HVN : ¬ (i ≤ (u : Int) ∧ (u : Int) < i + p ∧ j ≤ (v : Int) ∧ (v : Int) < j + q) → Hid (val a0 a1 i j p q u v = a0) := fun h => by rw [Hid, val, if_neg h]
              by_cases h1 : i ≤ (u : Int)
              · have f1 : decide (i ≤ (u : Int)) = true := decide_eq_true h1
                by_cases h2 : (u : Int) < i + p
                · have f2 : decide ((u : Int) < i + p) = true := decide_eq_true h2
                  by_cases h3 : j ≤ (v : Int)
                  · have f3 : decide (j ≤ (v : Int)) = true := decide_eq_true h3
                    by_cases h4 : (v : Int) < j + q
                    · have f4 : decide ((v : Int) < j + q) = true := decide_eq_true h4
                      have HVP : Hid (val a0 a1 i j p q u v = ovr a0 a1) := by rw [Hid, val, if_pos ⟨h1, h2, h3, h4⟩]
                      rw [HVP.out] at HV
                      clear h1 h2 h3 h4 HVN
                      go_wp2_with fail
                      refine (rover_any a0 a1 ha hc _).mono ?_
                      rintro e x8 ⟨rfl, rfl⟩
                      go_wp2_with fail
                      refine (at_any HC9.out u v (by rw [I64]; omega) (by rw [I64]; omega)).mono ?_
                      rintro e x9 ⟨rfl, hb9⟩
                      rw [HV.out]
                      have HB10 := hid (Below.on HB9.out hb9)
                      have HC10 := hid (HC9.out.on hb9)
                      clear hb9 HB9 HC9 HV
                      go_wp2
                      go_roundw
                      case rel => exact ⟨u + 1, by go_num, by omega, HC10.out, HB10.out⟩
                      case measure => simp [numOf]; omega
                    · have f4 : decide ((v : Int) < j + q) = false := decide_eq_false h4
                      rw [(HVN (fun h => h4 h.2.2.2)).out] at HV
                      clear h1 h2 h3 h4 HVN
                      go_wp2_with fail
                      refine (at_any HC9.out u v (by rw [I64]; omega) (by rw [I64]; omega)).mono ?_
                      rintro e x9 ⟨rfl, hb9⟩
                      rw [HV.out]
                      have HB10 := hid (Below.on HB9.out hb9)
                      have HC10 := hid (HC9.out.on hb9)
                      clear hb9 HB9 HC9 HV
                      go_wp2
                      go_roundw
                      case rel => exact ⟨u + 1, by go_num, by omega, HC10.out, HB10.out⟩
                      case measure => simp [numOf]; omega
                  · have f3 : decide (j ≤ (v : Int)) = false := decide_eq_false h3
                    rw [(HVN (fun h => h3 h.2.2.1)).out] at HV
                    clear h1 h2 h3 HVN
                    go_wp2_with fail
                    refine (at_any HC9.out u v (by rw [I64]; omega) (by rw [I64]; omega)).mono ?_
                    rintro e x9 ⟨rfl, hb9⟩
                    rw [HV.out]
                    have HB10 := hid (Below.on HB9.out hb9)
                    have HC10 := hid (HC9.out.on hb9)
                    clear hb9 HB9 HC9 HV
                    go_wp2
                    go_roundw
                    case rel => exact ⟨u + 1, by go_num, by omega, HC10.out, HB10.out⟩
                    case measure => simp [numOf]; omega
                · have f2 : decide ((u : Int) < i + p) = false := decide_eq_false h2
                  rw [(HVN (fun h => h2 h.2.1)).out] at HV
                  clear h1 h2 HVN
                  go_wp2_with fail
                  refine (at_any HC9.out u v (by rw [I64]; omega) (by rw [I64]; omega)).mono ?_
                  rintro e x9 ⟨rfl, hb9⟩
                  rw [HV.out]
                  have HB10 := hid (Below.on HB9.out hb9)
                  have HC10 := hid (HC9.out.on hb9)
                  clear hb9 HB9 HC9 HV
                  go_wp2
                  go_roundw
                  case rel => exact ⟨u + 1, by go_num, by omega, HC10.out, HB10.out⟩
                  case measure => simp [numOf]; omega
              · have f1 : decide (i ≤ (u : Int)) = false := decide_eq_false h1
                rw [(HVN (fun h => h1 h.1)).out] at HV
                clear h1 HVN
                go_wp2_with fail
                refine (at_any HC9.out u v (by rw [I64]; omega) (by rw [I64]; omega)).mono ?_
                rintro e x9 ⟨rfl, hb9⟩
                rw [HV.out]
                have HB10 := hid (Below.on HB9.out hb9)
                have HC10 := hid (HC9.out.on hb9)
                clear hb9 HB9 HC9 HV
                go_wp2
                go_roundw
                case rel => exact ⟨u + 1, by go_num, by omega, HC10.out, HB10.out⟩
                case measure => simp [numOf]; omega
            · have e2 : decide ((u : Int) < 12) = false := decide_eq_false (by omega)
              go_wp2
              go_roundw
              case rel => exact ⟨v + 1, by go_num, by omega, HC9.out, HB9.out⟩
              case measure => simp [numOf]; omega
        · have e1 : decide ((v : Int) < 9) = false := decide_eq_false (by omega)
          go_wp2_with fail
          refine (awake_any _).mono ?_
          rintro e x9 ⟨rfl, hb9⟩
          have HB10 := hid (Below.on HB8.out hb9)
          go_wp2
          go_ret
          exact ⟨rfl, HB10.out⟩
end Go.Proofs.YtldnggokkkhihaaDoor.canvasFills
