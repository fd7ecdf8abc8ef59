/- RegionGrids: for every list of truths the call returns true; nothing that was there has turned. -/
import Derived.Test.YtgogpckjlfgdcabRgfM
import Derived.Test.YtgogpckjlfgdcabLibB
namespace Go.Proofs.Ytgogpckjlfgdcab.regionGrids
open Go Go.RowKit

/-- What stands: the argument, and a region of squares. -/
structure Sn (w u : World) (v : Value) (t : Nat → Bool) (lo hi : Nat) (A : List Rc) : Prop where
  gs : Gs t lo hi A
  rd : ∃ a c, v = .slice a A.length c ∧ RdC u a A.length c A
  bel : Below w.heap.size w u
theorem Sn.on {w u u' : World} {v : Value} {t : Nat → Bool} {lo hi : Nat} {A : List Rc} (h : Sn w u v t lo hi A) (hb : Below u.heap.size u u') : Sn w u' v t lo hi A := ⟨h.gs, by
  obtain ⟨a, c, e, r⟩ := h.rd
  exact ⟨a, c, e, r.on hb⟩, Below.on h.bel hb⟩
theorem Sn.nil (w : World) (t : Nat → Bool) (lo : Nat) : Sn w w (.slice none 0 0) t lo lo [] := ⟨gs_nil t lo, ⟨none, 0, rfl, RdC.nil w⟩, Below.refl _ _⟩

/-- A square put to a region. -/
theorem put {u : World} {a : Option Addr} {c : Nat} {A : List Rc} {t : Nat → Bool} {lo hi i : Nat} (g : Gs t lo hi A) (h : RdC u a A.length c A) (hi36 : i < 36) {p q : Int} (e : sqr i = ⟨3 * p, 2 * q, 3, 2⟩) :
    Calls Try.prog 5 #[.slice a A.length c, .slice (some ⟨u.heap.size, 0, none⟩) 1 1] (u.alloc (.cells #[.int .i64 (3 * p), .int .i64 (2 * q), .int .i64 3, .int .i64 2] 26)) (fun x u' => ∃ a' c', x = .returned (.slice a' (mk or A [sqr i]).length c') ∧ RdC u' a' (mk or A [sqr i]).length c' (mk or A [sqr i]) ∧ Below u.heap.size u u') := by
  have hk := sqr_ck hi36
  have h1 := rdc_lit u (sqr i) hk.ok
  rw [e] at h1
  have hb := below_new u (.cells #[.int .i64 (3 * p), .int .i64 (2 * q), .int .i64 3, .int .i64 2] 26)
  have hl := gs_len g
  have h2 := union_any a (some ⟨u.heap.size, 0, none⟩) A.length c 1 1 A [⟨3 * p, 2 * q, 3, 2⟩] _ (h.on hb) h1 (by omega)
  rw [← e, unn_reg g.reg (reg_one hk)] at h2
  refine h2.mono ?_
  rintro x u' ⟨a', c', rfl, h3, hb3⟩
  exact ⟨a', c', rfl, h3, Below.on hb hb3⟩
theorem cutOut {u : World} {a : Option Addr} {c : Nat} {A : List Rc} {t : Nat → Bool} {lo hi i : Nat} (g : Gs t lo hi A) (h : RdC u a A.length c A) (hi36 : i < 36) {p q : Int} (e : sqr i = ⟨3 * p, 2 * q, 3, 2⟩) :
    Calls Try.prog 10 #[.slice a A.length c, .slice (some ⟨u.heap.size, 0, none⟩) 1 1] (u.alloc (.cells #[.int .i64 (3 * p), .int .i64 (2 * q), .int .i64 3, .int .i64 2] 26)) (fun x u' => ∃ a' c', x = .returned (.slice a' (mk sub A [sqr i]).length c') ∧ RdC u' a' (mk sub A [sqr i]).length c' (mk sub A [sqr i]) ∧ Below u.heap.size u u') := by
  have hk := sqr_ck hi36
  have h1 := rdc_lit u (sqr i) hk.ok
  rw [e] at h1
  have hb := below_new u (.cells #[.int .i64 (3 * p), .int .i64 (2 * q), .int .i64 3, .int .i64 2] 26)
  have hl := gs_len g
  have h2 := subtract_any a (some ⟨u.heap.size, 0, none⟩) A.length c 1 1 A [⟨3 * p, 2 * q, 3, 2⟩] _ (h.on hb) h1 (by omega)
  rw [← e, unn_reg g.reg (reg_one hk)] at h2
  refine h2.mono ?_
  rintro x u' ⟨a', c', rfl, h3, hb3⟩
  exact ⟨a', c', rfl, h3, Below.on hb hb3⟩

set_option maxRecDepth 100000 in
set_option maxHeartbeats 2000000 in
theorem walk (a : Option Addr) (n c : Nat) (t : Nat → Bool) (w : World) (h : RdB w a n c t) :
    Calls Try.prog 3 #[.slice a n c] w fun e w' => e = .returned (.bool true) ∧ Below w.heap.size w w' := by
  have H := hid h
  have hs := h.small
  clear h
  obtain ⟨m, hm⟩ : ∃ m, m = min n 36 := ⟨_, rfl⟩
  have hm1 : m ≤ n ∧ m ≤ 36 := by omega
  have hm3 : n ≤ m ∨ 36 ≤ m := by omega
  clear hm
  go_enter Try.func3, Try.ntmps3
  go_wp2
  go_loopw [3, 5, 6] (fun s3 s5 s6 wr => ∃ (i k : Nat) (A : List Rc), s6 = .int .i64 i ∧ i ≤ m ∧ s5 = .int .i64 k ∧ k ≤ i ∧ area A = 6 * k ∧ Sn w wr s3 t 0 i A) (fun _ _ s6 _ => 36 - (numOf s6).toNat)
  case atStart => exact ⟨0, 0, [], rfl, by omega, rfl, by omega, by rw [area_nil]; rfl, Sn.nil w t 0⟩
  case round =>
    obtain ⟨i, k, A, rfl, him, rfl, hki, hA, hS⟩ := hrel
    obtain ⟨a3, c3, rfl, h3⟩ := hS.rd
    have HA := hid hA
    have HG := hid hS.gs
    have HB := hid hS.bel
    have H3 := hid h3
    clear hA hS h3
    by_cases hgo : i < m
    · have e1 : decide ((i : Int) < n) = true := decide_eq_true (by omega)
      have e2 : decide ((i : Int) < 36) = true := decide_eq_true (by omega)
      have e3 : (i : Int) < n := by omega
      obtain ⟨b, off, rfl, _, hc⟩ := (H.out.on HB.out).pl (by omega)
      have d0 := hc i (by omega)
      cases ht : t i
      · rw [ht] at d0
        go_wp2
        go_roundw
        case rel => exact ⟨i + 1, k, A, by go_num, by omega, rfl, by omega, HA.out, ⟨gs_hi0 HG.out ht, ⟨a3, c3, rfl, H3.out⟩, HB.out⟩⟩
        case measure => simp [numOf]; omega
      · rw [ht] at d0
        obtain ⟨p, q, hp, hq, hp5, hq5, hsq⟩ := sqr_int i (by omega)
        have f0 : IntKind.i64.wrap q = q := by rw [IntKind.wrap_i64]; omega
        have f1 : IntKind.i64.wrap (3 * p) = 3 * p := by rw [IntKind.wrap_i64]; omega
        have f2 : IntKind.i64.wrap (2 * q) = 2 * q := by rw [IntKind.wrap_i64]; omega
        have CU := hid (put HG.out H3.out (i := i) (by omega) hsq)
        have HT := hid ht
        clear hsq ht hc
        go_wp2_with fail
        refine CU.out.mono ?_
        rintro e w5 ⟨a5, c5, rfl, h5, hb5⟩
        have H5 := hid h5
        have HB5 := hid (Below.on HB.out hb5)
        clear h5 hb5 CU
        go_wp2
        go_roundw
        case rel => exact ⟨i + 1, k + 1, _, by go_num, by omega, by go_num, by omega, by rw [gs_area HG.out (by omega), HA.out]; omega, ⟨gs_hi HG.out (by omega) (by omega) HT.out, ⟨a5, c5, rfl, H5.out⟩, HB5.out⟩⟩
        case measure => simp [numOf]; omega
    · obtain rfl : i = m := by omega
      -- HERE
      rcases Nat.lt_or_ge 36 n with hN | hN
      · have e1 : decide ((i : Int) < n) = true := decide_eq_true (by omega)
        have e2 : decide ((i : Int) < 36) = false := decide_eq_false (by omega)
        have g0 : (36 : Int) < n := by omega
        clear hN
        have f9 : IntKind.i64.wrap ((n : Int) - 1) = (n : Int) - 1 := by rw [IntKind.wrap_i64]; omega
        go_wp2
        clear g0
        go_loopw [4, 7] (fun s4 s7 wz => ∃ (z : Int) (j : Nat) (B : List Rc), s7 = .int .i64 z ∧ z = (j : Int) - 1 ∧ j ≤ i ∧ Sn wr wz s4 t j i B) (fun _ s7 _ => ((numOf s7) + 1).toNat)
        case atStart => exact ⟨_, i, [], rfl, by omega, by omega, Sn.nil wr t i⟩
        case round =>
          obtain ⟨z, j0, B, rfl, hz, hji, hS⟩ := hrel
          obtain ⟨a4, c4, rfl, h4⟩ := hS.rd
          have HGB := hid hS.gs
          have HBB := hid hS.bel
          have H4 := hid h4
          clear hS h4
          cases j0 with
          | succ j =>
            obtain rfl : z = (j : Int) := by omega
            clear hz
            have g1 : decide ((0 : Int) ≤ (j : Int)) = true := decide_eq_true (by omega)
            have g2 : (j : Int) < n := by omega
            have f10 : IntKind.i64.wrap ((j : Int) - 1) = (j : Int) - 1 := by rw [IntKind.wrap_i64]; omega
            obtain ⟨b, off, rfl, _, hc⟩ := (H.out.on (Below.on HB.out HBB.out)).pl (by omega)
            have d0 := hc j (by omega)
            cases ht : t j
            · rw [ht] at d0
              go_wp2
              go_roundw
              case rel => exact ⟨_, j, B, rfl, rfl, by omega, ⟨gs_lo0 HGB.out ht, ⟨a4, c4, rfl, H4.out⟩, HBB.out⟩⟩
              case measure => simp [numOf]; try omega
            · rw [ht] at d0
              obtain ⟨p, q, hp, hq, hp5, hq5, hsq⟩ := sqr_int j (by omega)
              have f0 : IntKind.i64.wrap q = q := by rw [IntKind.wrap_i64]; omega
              have f1 : IntKind.i64.wrap (3 * p) = 3 * p := by rw [IntKind.wrap_i64]; omega
              have f2 : IntKind.i64.wrap (2 * q) = 2 * q := by rw [IntKind.wrap_i64]; omega
              have CU := hid (put HGB.out H4.out (i := j) (by omega) hsq)
              have HT := hid ht
              clear hsq ht hc
              go_wp2_with fail
              refine CU.out.mono ?_
              rintro e w5 ⟨a5, c5, rfl, h5, hb5⟩
              have H5 := hid h5
              have HB5 := hid (Below.on HBB.out hb5)
              clear h5 hb5 CU
              go_wp2
              go_roundw
              case rel => exact ⟨_, j, _, rfl, rfl, by omega, ⟨gs_lo HGB.out (by omega) (by omega) HT.out, ⟨a5, c5, rfl, H5.out⟩, HB5.out⟩⟩
              case measure => simp [numOf]; try omega
          | zero =>
            obtain rfl : z = -1 := by omega
            clear hz
            have HEQ : Hid (A = B) := gs_eq HG.out HGB.out
            have H3z := hid (H3.out.on HBB.out)
            have HBz := hid (Below.on HB.out HBB.out)
            clear HBB HGB
            go_wp2
            go_loopw [8] (fun s8 wy => ∃ j : Nat, s8 = .int .i64 j ∧ j ≤ 36 ∧ Below wr.heap.size wr wy) (fun s8 _ => 36 - (numOf s8).toNat)
            case atStart => exact ⟨0, rfl, by omega, Below.refl _ _⟩
            case round =>
              obtain ⟨j, rfl, hj36, hb⟩ := hrel
              have HBY := hid hb
              clear hb
              by_cases hgo3 : j < 36
              · have g1 : decide ((j : Int) < 36) = true := decide_eq_true (by omega)
                obtain ⟨p, q, hp, hq, hp5, hq5, hsq⟩ := sqr_int j hgo3
                have f0 : IntKind.i64.wrap q = q := by rw [IntKind.wrap_i64]; omega
                have f1 : IntKind.i64.wrap (3 * p) = 3 * p := by rw [IntKind.wrap_i64]; omega
                have f2 : IntKind.i64.wrap (2 * q) = 2 * q := by rw [IntKind.wrap_i64]; omega
                have f3 : IntKind.i64.wrap (3 * p + 1) = 3 * p + 1 := by rw [IntKind.wrap_i64]; omega
                have f4 : IntKind.i64.wrap (2 * q + 1) = 2 * q + 1 := by rw [IntKind.wrap_i64]; omega
                have CH := hid (fun u (h : RdC u a3 A.length c3 A) => has_reg h HG.out.reg (3 * p + 1) (2 * q + 1) (by omega) (by omega))
                rw [gs_mid HG.out j hsq] at CH
                clear hsq
                by_cases hjn : j < n
                · have g2 : decide ((j : Int) < n) = true := decide_eq_true (by omega)
                  have g3 : (j : Int) < n := by omega
                  have HD : Hid ((decide (j < i) && t j) = t j) := by rw [Hid, decide_eq_true (by omega : j < i), Bool.true_and]
                  rw [HD.out] at CH
                  obtain ⟨b, off, rfl, _, hc⟩ := (H.out.on (Below.on HBz.out HBY.out)).pl (by omega)
                  have d0 := hc j hjn
                  clear hc
                  generalize t j = τ at d0 CH
                  cases τ
                  all_goals
                    go_wp2_with fail
                    refine (CH.out _ (H3z.out.on HBY.out)).mono ?_
                    rintro e w5 ⟨rfl, hb5⟩
                    have HB5 := hid (Below.on HBY.out hb5)
                    clear hb5
                    go_wp2
                    go_roundw
                    case rel => exact ⟨j + 1, by go_num, by omega, HB5.out⟩
                    case measure => simp [numOf]; try omega
                · have g2 : decide ((j : Int) < n) = false := decide_eq_false (by omega)
                  have HD : Hid ((decide (j < i) && t j) = false) := by rw [Hid, decide_eq_false (by omega : ¬ j < i), Bool.false_and]
                  rw [HD.out] at CH
                  go_wp2_with fail
                  refine (CH.out _ (H3z.out.on HBY.out)).mono ?_
                  rintro e w5 ⟨rfl, hb5⟩
                  have HB5 := hid (Below.on HBY.out hb5)
                  clear hb5
                  go_wp2
                  go_roundw
                  case rel => exact ⟨j + 1, by go_num, by omega, HB5.out⟩
                  case measure => simp [numOf]; try omega
              · have g1 : decide ((j : Int) < 36) = false := decide_eq_false (by omega)
                have hl := gs_len HG.out
                have CA := hid (fun u (h : RdC u a3 A.length c3 A) => area_any a3 A.length c3 A u h (by omega))
                rw [if_pos (rgn_iff.2 HG.out.reg), HA.out] at CA
                have f5 : IntKind.i64.wrap (6 * (k : Int)) = 6 * (k : Int) := by rw [IntKind.wrap_i64]; omega
                have n2 : ∀ z : Int, (z != z) = false := fun z => by simp
                go_wp2_with fail
                refine (same_reg (H3z.out.on HBY.out) (H4.out.on HBY.out) HEQ.out).mono ?_
                rintro e w5 ⟨rfl, hb5⟩
                have HB5 := hid (Below.on HBY.out hb5)
                clear hb5
                go_wp2_with fail
                refine (CA.out _ (H3z.out.on HB5.out)).mono ?_
                rintro e w6 ⟨rfl, hb6⟩
                have HB6 := hid (Below.on HB5.out hb6)
                clear hb6
                go_wp2_with fail
                refine (check_reg (H3z.out.on HB6.out) HG.out.reg).mono ?_
                rintro e w7 ⟨rfl, hb7⟩
                have HB7 := hid (Below.on HB6.out hb7)
                have H7 := hid (H3z.out.on HB7.out)
                have HW7 := hid (Below.on HBz.out HB7.out)
                clear hb7 HB5 HB6 HB7 CA HEQ
                go_wp2
                go_loopw [3, 10] (fun s3 s10 wv => ∃ (j : Nat) (C : List Rc), s10 = .int .i64 j ∧ j ≤ i ∧ Sn w7 wv s3 t j i C) (fun _ s10 _ => 36 - (numOf s10).toNat)
                case atStart => exact ⟨0, A, rfl, by omega, ⟨HG.out, ⟨a3, c3, rfl, H7.out⟩, Below.refl _ _⟩⟩
                case round =>
                  obtain ⟨l, C, rfl, hli, hS⟩ := hrel
                  obtain ⟨a8, c8, rfl, h8⟩ := hS.rd
                  have HGC := hid hS.gs
                  have HBC := hid hS.bel
                  have H8 := hid h8
                  clear hS h8
                  by_cases hgo4 : l < i
                  · have g4 : decide ((l : Int) < n) = true := decide_eq_true (by omega)
                    have g5 : decide ((l : Int) < 36) = true := decide_eq_true (by omega)
                    obtain ⟨p, q, hp, hq, hp5, hq5, hsq⟩ := sqr_int l (by omega)
                    have f0 : IntKind.i64.wrap q = q := by rw [IntKind.wrap_i64]; omega
                    have f1 : IntKind.i64.wrap (3 * p) = 3 * p := by rw [IntKind.wrap_i64]; omega
                    have f2 : IntKind.i64.wrap (2 * q) = 2 * q := by rw [IntKind.wrap_i64]; omega
                    have CU := hid (cutOut HGC.out H8.out (i := l) (by omega) hsq)
                    clear hsq
                    go_wp2_with fail
                    refine CU.out.mono ?_
                    rintro e w9 ⟨a9, c9, rfl, h9, hb9⟩
                    have H9 := hid h9
                    have HB9 := hid (Below.on HBC.out hb9)
                    clear h9 hb9 CU
                    go_wp2
                    go_roundw
                    case rel => exact ⟨l + 1, _, by go_num, by omega, ⟨gs_sub HGC.out (by omega), ⟨a9, c9, rfl, H9.out⟩, HB9.out⟩⟩
                    case measure => simp [numOf]; try omega
                  · obtain rfl : l = i := by omega
                    obtain rfl : C = [] := gs_none HGC.out
                    have HW8 := hid (Below.on HW7.out HBC.out)
                    go_wp2_with fail
                    refine (awake_any _).mono ?_
                    rintro e w9 ⟨rfl, hb9⟩
                    have HW9 := hid (Below.on HW8.out hb9)
                    clear hb9
                    go_wp2
                    go_ret
                    exact ⟨rfl, HW9.out⟩
      · have e1 : decide ((i : Int) < n) = false := decide_eq_false (by omega)
        have g0 : ¬ (36 : Int) < n := by omega
        clear hN
        have f9 : IntKind.i64.wrap ((n : Int) - 1) = (n : Int) - 1 := by rw [IntKind.wrap_i64]; omega
        go_wp2
        clear g0
        go_loopw [4, 7] (fun s4 s7 wz => ∃ (z : Int) (j : Nat) (B : List Rc), s7 = .int .i64 z ∧ z = (j : Int) - 1 ∧ j ≤ i ∧ Sn wr wz s4 t j i B) (fun _ s7 _ => ((numOf s7) + 1).toNat)
        case atStart => exact ⟨_, i, [], rfl, by omega, by omega, Sn.nil wr t i⟩
        case round =>
          obtain ⟨z, j0, B, rfl, hz, hji, hS⟩ := hrel
          obtain ⟨a4, c4, rfl, h4⟩ := hS.rd
          have HGB := hid hS.gs
          have HBB := hid hS.bel
          have H4 := hid h4
          clear hS h4
          cases j0 with
          | succ j =>
            obtain rfl : z = (j : Int) := by omega
            clear hz
            have g1 : decide ((0 : Int) ≤ (j : Int)) = true := decide_eq_true (by omega)
            have g2 : (j : Int) < n := by omega
            have f10 : IntKind.i64.wrap ((j : Int) - 1) = (j : Int) - 1 := by rw [IntKind.wrap_i64]; omega
            obtain ⟨b, off, rfl, _, hc⟩ := (H.out.on (Below.on HB.out HBB.out)).pl (by omega)
            have d0 := hc j (by omega)
            cases ht : t j
            · rw [ht] at d0
              go_wp2
              go_roundw
              case rel => exact ⟨_, j, B, rfl, rfl, by omega, ⟨gs_lo0 HGB.out ht, ⟨a4, c4, rfl, H4.out⟩, HBB.out⟩⟩
              case measure => simp [numOf]; try omega
            · rw [ht] at d0
              obtain ⟨p, q, hp, hq, hp5, hq5, hsq⟩ := sqr_int j (by omega)
              have f0 : IntKind.i64.wrap q = q := by rw [IntKind.wrap_i64]; omega
              have f1 : IntKind.i64.wrap (3 * p) = 3 * p := by rw [IntKind.wrap_i64]; omega
              have f2 : IntKind.i64.wrap (2 * q) = 2 * q := by rw [IntKind.wrap_i64]; omega
              have CU := hid (put HGB.out H4.out (i := j) (by omega) hsq)
              have HT := hid ht
              clear hsq ht hc
              go_wp2_with fail
              refine CU.out.mono ?_
              rintro e w5 ⟨a5, c5, rfl, h5, hb5⟩
              have H5 := hid h5
              have HB5 := hid (Below.on HBB.out hb5)
              clear h5 hb5 CU
              go_wp2
              go_roundw
              case rel => exact ⟨_, j, _, rfl, rfl, by omega, ⟨gs_lo HGB.out (by omega) (by omega) HT.out, ⟨a5, c5, rfl, H5.out⟩, HB5.out⟩⟩
              case measure => simp [numOf]; try omega
          | zero =>
            obtain rfl : z = -1 := by omega
            clear hz
            have HEQ : Hid (A = B) := gs_eq HG.out HGB.out
            have H3z := hid (H3.out.on HBB.out)
            have HBz := hid (Below.on HB.out HBB.out)
            clear HBB HGB
            go_wp2
            go_loopw [8] (fun s8 wy => ∃ j : Nat, s8 = .int .i64 j ∧ j ≤ 36 ∧ Below wr.heap.size wr wy) (fun s8 _ => 36 - (numOf s8).toNat)
            case atStart => exact ⟨0, rfl, by omega, Below.refl _ _⟩
            case round =>
              obtain ⟨j, rfl, hj36, hb⟩ := hrel
              have HBY := hid hb
              clear hb
              by_cases hgo3 : j < 36
              · have g1 : decide ((j : Int) < 36) = true := decide_eq_true (by omega)
                obtain ⟨p, q, hp, hq, hp5, hq5, hsq⟩ := sqr_int j hgo3
                have f0 : IntKind.i64.wrap q = q := by rw [IntKind.wrap_i64]; omega
                have f1 : IntKind.i64.wrap (3 * p) = 3 * p := by rw [IntKind.wrap_i64]; omega
                have f2 : IntKind.i64.wrap (2 * q) = 2 * q := by rw [IntKind.wrap_i64]; omega
                have f3 : IntKind.i64.wrap (3 * p + 1) = 3 * p + 1 := by rw [IntKind.wrap_i64]; omega
                have f4 : IntKind.i64.wrap (2 * q + 1) = 2 * q + 1 := by rw [IntKind.wrap_i64]; omega
                have CH := hid (fun u (h : RdC u a3 A.length c3 A) => has_reg h HG.out.reg (3 * p + 1) (2 * q + 1) (by omega) (by omega))
                rw [gs_mid HG.out j hsq] at CH
                clear hsq
                by_cases hjn : j < n
                · have g2 : decide ((j : Int) < n) = true := decide_eq_true (by omega)
                  have g3 : (j : Int) < n := by omega
                  have HD : Hid ((decide (j < i) && t j) = t j) := by rw [Hid, decide_eq_true (by omega : j < i), Bool.true_and]
                  rw [HD.out] at CH
                  obtain ⟨b, off, rfl, _, hc⟩ := (H.out.on (Below.on HBz.out HBY.out)).pl (by omega)
                  have d0 := hc j hjn
                  clear hc
                  generalize t j = τ at d0 CH
                  cases τ
                  all_goals
                    go_wp2_with fail
                    refine (CH.out _ (H3z.out.on HBY.out)).mono ?_
                    rintro e w5 ⟨rfl, hb5⟩
                    have HB5 := hid (Below.on HBY.out hb5)
                    clear hb5
                    go_wp2
                    go_roundw
                    case rel => exact ⟨j + 1, by go_num, by omega, HB5.out⟩
                    case measure => simp [numOf]; try omega
                · have g2 : decide ((j : Int) < n) = false := decide_eq_false (by omega)
                  have HD : Hid ((decide (j < i) && t j) = false) := by rw [Hid, decide_eq_false (by omega : ¬ j < i), Bool.false_and]
                  rw [HD.out] at CH
                  go_wp2_with fail
                  refine (CH.out _ (H3z.out.on HBY.out)).mono ?_
                  rintro e w5 ⟨rfl, hb5⟩
                  have HB5 := hid (Below.on HBY.out hb5)
                  clear hb5
                  go_wp2
                  go_roundw
                  case rel => exact ⟨j + 1, by go_num, by omega, HB5.out⟩
                  case measure => simp [numOf]; try omega
              · have g1 : decide ((j : Int) < 36) = false := decide_eq_false (by omega)
                have hl := gs_len HG.out
                have CA := hid (fun u (h : RdC u a3 A.length c3 A) => area_any a3 A.length c3 A u h (by omega))
                rw [if_pos (rgn_iff.2 HG.out.reg), HA.out] at CA
                have f5 : IntKind.i64.wrap (6 * (k : Int)) = 6 * (k : Int) := by rw [IntKind.wrap_i64]; omega
                have n2 : ∀ z : Int, (z != z) = false := fun z => by simp
                go_wp2_with fail
                refine (same_reg (H3z.out.on HBY.out) (H4.out.on HBY.out) HEQ.out).mono ?_
                rintro e w5 ⟨rfl, hb5⟩
                have HB5 := hid (Below.on HBY.out hb5)
                clear hb5
                go_wp2_with fail
                refine (CA.out _ (H3z.out.on HB5.out)).mono ?_
                rintro e w6 ⟨rfl, hb6⟩
                have HB6 := hid (Below.on HB5.out hb6)
                clear hb6
                go_wp2_with fail
                refine (check_reg (H3z.out.on HB6.out) HG.out.reg).mono ?_
                rintro e w7 ⟨rfl, hb7⟩
                have HB7 := hid (Below.on HB6.out hb7)
                have H7 := hid (H3z.out.on HB7.out)
                have HW7 := hid (Below.on HBz.out HB7.out)
                clear hb7 HB5 HB6 HB7 CA HEQ
                go_wp2
                go_loopw [3, 10] (fun s3 s10 wv => ∃ (j : Nat) (C : List Rc), s10 = .int .i64 j ∧ j ≤ i ∧ Sn w7 wv s3 t j i C) (fun _ s10 _ => 36 - (numOf s10).toNat)
                case atStart => exact ⟨0, A, rfl, by omega, ⟨HG.out, ⟨a3, c3, rfl, H7.out⟩, Below.refl _ _⟩⟩
                case round =>
                  obtain ⟨l, C, rfl, hli, hS⟩ := hrel
                  obtain ⟨a8, c8, rfl, h8⟩ := hS.rd
                  have HGC := hid hS.gs
                  have HBC := hid hS.bel
                  have H8 := hid h8
                  clear hS h8
                  by_cases hgo4 : l < i
                  · have g4 : decide ((l : Int) < n) = true := decide_eq_true (by omega)
                    have g5 : decide ((l : Int) < 36) = true := decide_eq_true (by omega)
                    obtain ⟨p, q, hp, hq, hp5, hq5, hsq⟩ := sqr_int l (by omega)
                    have f0 : IntKind.i64.wrap q = q := by rw [IntKind.wrap_i64]; omega
                    have f1 : IntKind.i64.wrap (3 * p) = 3 * p := by rw [IntKind.wrap_i64]; omega
                    have f2 : IntKind.i64.wrap (2 * q) = 2 * q := by rw [IntKind.wrap_i64]; omega
                    have CU := hid (cutOut HGC.out H8.out (i := l) (by omega) hsq)
                    clear hsq
                    go_wp2_with fail
                    refine CU.out.mono ?_
                    rintro e w9 ⟨a9, c9, rfl, h9, hb9⟩
                    have H9 := hid h9
                    have HB9 := hid (Below.on HBC.out hb9)
                    clear h9 hb9 CU
                    go_wp2
                    go_roundw
                    case rel => exact ⟨l + 1, _, by go_num, by omega, ⟨gs_sub HGC.out (by omega), ⟨a9, c9, rfl, H9.out⟩, HB9.out⟩⟩
                    case measure => simp [numOf]; try omega
                  · obtain rfl : l = i := by omega
                    obtain rfl : C = [] := gs_none HGC.out
                    have HW8 := hid (Below.on HW7.out HBC.out)
                    go_wp2_with fail
                    refine (awake_any _).mono ?_
                    rintro e w9 ⟨rfl, hb9⟩
                    have HW9 := hid (Below.on HW8.out hb9)
                    clear hb9
                    go_wp2
                    go_ret
                    exact ⟨rfl, HW9.out⟩
end Go.Proofs.Ytgogpckjlfgdcab.regionGrids
