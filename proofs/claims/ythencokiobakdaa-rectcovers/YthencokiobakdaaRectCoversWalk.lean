/- RectCovers: for every list of rectangles and number the call returns true; nothing that was there has turned. -/
import Derived.Test.YthencokiobakdaaRectN
import Derived.Deep.DeepCutAuto
import Derived.Deep.CutRange
namespace Go.Proofs.Ythencokiobakdaa.rectCovers
open Go Go.RowKit

/-- What stays: the two covers, and the old memory. -/
structure Two (w u : World) (a b : Rc) : Prop where
  fst : Bx u w.heap.size a
  snd : Bx u (w.heap.size + 1) b
  bel : Below w.heap.size w u

theorem Two.on {w u v : World} {a b : Rc} (h : Two w u a b) (hb : Below u.heap.size u v) : Two w v a b := ⟨h.fst.on hb, h.snd.on hb, Below.on h.bel hb⟩
theorem Two.st1 {w u : World} {a b : Rc} (h : Two w u a b) (c : Rc) : Two w (st4 u w.heap.size c) c b := ⟨h.fst.st c, h.snd.st_other (by omega) c, below_st h.bel (Nat.le_refl _) c⟩
theorem Two.st2 {w u : World} {a b : Rc} (h : Two w u a b) (c : Rc) : Two w (st4 u (w.heap.size + 1) c) a c := ⟨h.fst.st_other (by omega) c, h.snd.st c, below_st h.bel (by omega) c⟩

theorem may_ok {a : Rc} (_ : may a = true) (h : a = rz ∨ Ck a) : a.Ok := by
  rcases h with rfl | h
  · exact rz_ok
  · exact h.ok

set_option maxRecDepth 100000 in
set_option maxHeartbeats 4000000 in
theorem core (a : Option Addr) (n c : Nat) (l : List (List Int)) (by_ : Int) (w : World) (hr : RdN 4 w a n c l) (hby : -9223372036854775808 ≤ by_ ∧ by_ ≤ 9223372036854775807) :
    Calls Try.prog 8 #[.slice a n c, .int .i64 by_] w fun e w' => e = .returned (.bool true) ∧ Below w.heap.size w w' := by
  have HR := hid hr
  have hn : n ≤ 9223372036854775807 := by have := Nat.le_trans hr.le hr.max; simp only [maxLen] at this; omega
  have hg := eqlR_guard
  have HT : Hid (Two w ((w.alloc (ob rz)).alloc (ob rz)) rz rz) := by
    obtain ⟨h1, h2, h3⟩ := box2 rz rz (Below.refl ((w.alloc (ob rz)).alloc (ob rz)).heap.size ((w.alloc (ob rz)).alloc (ob rz)))
    exact ⟨h1, h2, h3⟩
  obtain ⟨x, hx⟩ : ∃ x, x = rcOf l := ⟨_, rfl⟩
  have HE : Hid (∀ j, j < n → ∃ b off, a = some ⟨b, off, none⟩ ∧ (x j).Ok ∧ El w b (off + j * 4) (x j)) := fun j hj => by rw [hx]; exact HR.out.el j hj
  clear hr HR hx
  go_enter Try.func8, Try.ntmps8
  go_wp2
  go_loopw [7] (fun i wr => ∃ j : Nat, i = .int .i64 j ∧ j ≤ n ∧ j ≤ 20 ∧ Two w wr rz rz) (fun i _ => 20 - (numOf i).toNat)
  case atStart => exact ⟨0, rfl, by omega, by omega, HT.out⟩
  case round =>
    obtain ⟨N, rfl, hN, hN2, hT⟩ := hrel
    have HT2 := hid hT
    clear hT HT
    by_cases hgo : N < n
    · have e1 : decide ((N : Int) < n) = true := decide_eq_true (by omega)
      by_cases hgo2 : N < 20
      · have e2 : decide ((N : Int) < 20) = true := decide_eq_true (by omega)
        go_wp2
        go_roundw
        case rel => exact ⟨N + 1, by go_num, by omega, by omega, HT2.out⟩
        case measure => simp [numOf]; omega
      · have e2 : decide ((N : Int) < 20) = false := decide_eq_false (by omega)

        go_wp2
        go_loopw [8] (fun i wr => ∃ j : Nat, i = .int .i64 j ∧ j ≤ N ∧ Two w wr rz rz ∧ ∀ t < j, may (x t) = true) (fun i _ => N - (numOf i).toNat)
        case atStart => exact ⟨0, rfl, by omega, HT2.out, fun t ht => absurd ht (by omega)⟩
        case round =>
          obtain ⟨j, rfl, hj, hT, hM⟩ := hrel
          have HT3 := hid hT
          have HM := hid hM
          clear hT hM HT2
          by_cases hlt : j < N
          · have e3 : decide ((j : Int) < N) = true := decide_eq_true (by omega)
            obtain ⟨b0, off, rfl, hok, hel⟩ := HE.out j (by omega)
            obtain ⟨_, c0, c1, c2, c3⟩ := hel.on HT3.out.bel
            have HC := hid (fun w => may_any (x j) w)
            clear hok hel
            have hjn : (j : Int) < n := by omega
            cases hm : may (x j)
            · rw [hm] at HC
              go_wp2_with fail
              refine (HC.out _).mono ?_
              rintro e w2 ⟨rfl, hb2⟩
              go_wp2_with fail
              refine (awake_any _).mono ?_
              rintro e w3 ⟨rfl, hb3⟩
              go_wp2
              go_ret
              exact ⟨rfl, Below.on (Below.on HT3.out.bel hb2) hb3⟩
            · rw [hm] at HC
              go_wp2_with fail
              refine (HC.out _).mono ?_
              rintro e w2 ⟨rfl, hb2⟩
              go_wp2
              go_roundw
              case rel => exact ⟨j + 1, by go_num, by omega, HT3.out.on hb2, fun t ht => by rcases Nat.lt_or_ge t j with h | h; exact HM.out t h; rw [show t = j by omega]; exact hm⟩
              case measure => simp [numOf]; omega
          · have e3 : decide ((j : Int) < N) = false := decide_eq_false (by omega)
            have hjN : j = N := by omega
            subst hjN
            clear hlt hj
            obtain ⟨d, hd⟩ : ∃ d, d = plc by_ j := ⟨_, rfl⟩
            have HQ : Hid (0 < j → acc (fun t => x ((t + d) % j)) j = acc x j) := fun h0 => acc_turn x j d (by rw [hd]; exact plc_lt by_ j h0) HM.out
            have HP : Hid (0 < j → ∀ u, Calls Try.prog 19 #[.int .i64 by_, .int .i64 j] u fun e w' => e = .returned (.int .i64 (d : Nat)) ∧ w' = u) := fun h0 u => by rw [hd]; exact place_any by_ j hby h0 (by omega) u
            have HD : Hid (0 < j → d < j) := fun h0 => by rw [hd]; exact plc_lt by_ j h0
            clear hd
            go_wp2
            go_loopw [9] (fun i wr => ∃ k : Nat, i = .int .i64 k ∧ k ≤ j ∧ Two w wr (acc x k) (acc (fun t => x ((t + d) % j)) k)) (fun i _ => j - (numOf i).toNat)
            case atStart => exact ⟨0, rfl, by omega, HT3.out⟩
            case round =>
              obtain ⟨k, rfl, hk, hT⟩ := hrel
              have HT4 := hid hT
              clear hT HT3
              by_cases hlt : k < j
              · have e4 : decide ((k : Int) < j) = true := decide_eq_true (by omega)
                have hd := HD.out (by omega)
                obtain ⟨b0, off, rfl, okk, elk⟩ := HE.out k (by omega)
                obtain ⟨t, ht⟩ : ∃ t, t = (k + d) % j := ⟨_, rfl⟩
                have htj : t < j := by rw [ht]; exact Nat.mod_lt _ (by omega)
                obtain ⟨b1, off1, hbo, okt, elt⟩ := HE.out t (by omega)
                simp only [Option.some.injEq, Addr.mk.injEq, and_true] at hbo
                obtain ⟨rfl, rfl⟩ := hbo
                have m1 := acc_may x k (fun t ht => HM.out t (by omega))
                have m2 := acc_may (fun t => x ((t + d) % j)) k (fun t ht => HM.out _ (Nat.mod_lt _ (by omega)))
                have HS1 : Hid (cov (acc x k) (x k) = acc x (k + 1)) := rfl
                have HS2 : Hid (cov (acc (fun t => x ((t + d) % j)) k) (x t) = acc (fun t => x ((t + d) % j)) (k + 1)) := by simp only [Hid]; rw [ht]; rfl
                have o1 := (may_ok m1 (acc_plain x k (fun t ht => HM.out t (by omega))))
                have o2 := (may_ok m2 (acc_plain (fun t => x ((t + d) % j)) k (fun t ht => HM.out _ (Nat.mod_lt _ (by omega)))))
                have C1 := hid (fun w => cover_any (acc x k) (x k) o1 okk (fun he hf => cvr_ok (may_ck m1 he) (may_ck (HM.out k (by omega)) hf)) w)
                have C2 := hid (fun w => cover_any (acc (fun t => x ((t + d) % j)) k) (x t) o2 okt (fun he hf => cvr_ok (may_ck m2 he) (may_ck (HM.out t (by omega)) hf)) w)
                have CP := hid (HP.out (by omega))
                have hj0 : ¬ ((j : Int) = 0) := by omega
                have hadd : IntKind.i64.wrap ((k : Int) + (d : Int)) = (k : Int) + (d : Int) := by rw [IntKind.wrap_i64]; omega
                have hrem : ((k : Int) + (d : Int)).tmod (j : Int) = (t : Int) := by
                  rw [ht, Int.tmod_eq_emod_of_nonneg (by omega)]
                  simp
                clear m1 m2 o1 o2 okk okt ht
                generalize acc (fun t => x ((t + d) % j)) k = B at HT4 C2 HS2
                have HW := hid HT4.out.bel
                obtain ⟨_, c0, c1, c2, c3⟩ := elk.on HT4.out.bel
                obtain ⟨a0, a1, a2, a3⟩ := HT4.out.fst.all
                have hkn : (k : Int) < n := by omega
                have htn : (t : Int) < n := by omega
                clear elk
                go_upto_region 13 with fail
                go_cut [] from 34 to 56 (fun wc => Two w wc (acc x (k + 1)) B)
                case first =>
                  go_region_with (go_at_call 22; refine (C1.out _).mono ?_; rintro e u ⟨rfl, hb⟩; have hT5 := HT4.out.on (Below.on (Below.refl _ _).drew hb); obtain ⟨r0, r1, r2, r3⟩ := hT5.fst.all; have fz := hT5.fst.fz)
                  all_goals
                    go_wp2_with fail
                    go_meet
                    rw [← HS1.out]
                    exact hT5.st1 _
                case rest =>
                  have HT5 := hid hcut
                  clear hcut HT4 C1 c0 c1 c2 c3 a0 a1 a2 a3
                  obtain ⟨_, c0, c1, c2, c3⟩ := elt.on HT5.out.bel
                  obtain ⟨a0, a1, a2, a3⟩ := HT5.out.snd.all
                  clear elt
                  go_upto_region 14 with fail
                  go_region_with (first | (go_at_call 19; refine (CP.out _).mono ?_; rintro e u ⟨rfl, rfl⟩) | (go_at_call 22; refine (C2.out _).mono ?_; rintro e u ⟨rfl, hb⟩; have hT6 := HT5.out.on (Below.on (Below.refl _ _).drew hb); obtain ⟨r0, r1, r2, r3⟩ := hT6.snd.all; have fz := hT6.snd.fz))
                  all_goals
                    go_wp2
                    exact ⟨⟨k + 1, by go_num, by omega, by rw [← HS2.out]; exact hT6.st2 _⟩, by simp [numOf]; omega⟩
              · have e4 : decide ((k : Int) < j) = false := decide_eq_false (by omega)
                have hkj : k = j := by omega
                subst hkj
                have hq : acc (fun t => x ((t + d) % k)) k = acc x k := by
                  rcases Nat.eq_zero_or_pos k with h0 | h0
                  · subst h0; rfl
                  · exact HQ.out h0
                have hT := HT4.out
                rw [hq] at hT
                obtain ⟨c0, c1, c2, c3⟩ := hT.fst.all
                obtain ⟨d0, d1, d2, d3⟩ := hT.snd.all
                have HW := hid hT.bel
                have q := eqlR (acc x k) (acc x k)
                rw [rceq_same] at q
                clear hT hq HT4
                go_wp2_with fail
                refine (awake_any _).mono ?_
                rintro e w5 ⟨rfl, hb5⟩
                go_wp2
                go_ret
                exact ⟨rfl, Below.on HW.out hb5⟩
    · have e1 : decide ((N : Int) < n) = false := decide_eq_false (by omega)

      go_wp2
      go_loopw [8] (fun i wr => ∃ j : Nat, i = .int .i64 j ∧ j ≤ N ∧ Two w wr rz rz ∧ ∀ t < j, may (x t) = true) (fun i _ => N - (numOf i).toNat)
      case atStart => exact ⟨0, rfl, by omega, HT2.out, fun t ht => absurd ht (by omega)⟩
      case round =>
        obtain ⟨j, rfl, hj, hT, hM⟩ := hrel
        have HT3 := hid hT
        have HM := hid hM
        clear hT hM HT2
        by_cases hlt : j < N
        · have e3 : decide ((j : Int) < N) = true := decide_eq_true (by omega)
          obtain ⟨b0, off, rfl, hok, hel⟩ := HE.out j (by omega)
          obtain ⟨_, c0, c1, c2, c3⟩ := hel.on HT3.out.bel
          have HC := hid (fun w => may_any (x j) w)
          clear hok hel
          have hjn : (j : Int) < n := by omega
          cases hm : may (x j)
          · rw [hm] at HC
            go_wp2_with fail
            refine (HC.out _).mono ?_
            rintro e w2 ⟨rfl, hb2⟩
            go_wp2_with fail
            refine (awake_any _).mono ?_
            rintro e w3 ⟨rfl, hb3⟩
            go_wp2
            go_ret
            exact ⟨rfl, Below.on (Below.on HT3.out.bel hb2) hb3⟩
          · rw [hm] at HC
            go_wp2_with fail
            refine (HC.out _).mono ?_
            rintro e w2 ⟨rfl, hb2⟩
            go_wp2
            go_roundw
            case rel => exact ⟨j + 1, by go_num, by omega, HT3.out.on hb2, fun t ht => by rcases Nat.lt_or_ge t j with h | h; exact HM.out t h; rw [show t = j by omega]; exact hm⟩
            case measure => simp [numOf]; omega
        · have e3 : decide ((j : Int) < N) = false := decide_eq_false (by omega)
          have hjN : j = N := by omega
          subst hjN
          clear hlt hj
          obtain ⟨d, hd⟩ : ∃ d, d = plc by_ j := ⟨_, rfl⟩
          have HQ : Hid (0 < j → acc (fun t => x ((t + d) % j)) j = acc x j) := fun h0 => acc_turn x j d (by rw [hd]; exact plc_lt by_ j h0) HM.out
          have HP : Hid (0 < j → ∀ u, Calls Try.prog 19 #[.int .i64 by_, .int .i64 j] u fun e w' => e = .returned (.int .i64 (d : Nat)) ∧ w' = u) := fun h0 u => by rw [hd]; exact place_any by_ j hby h0 (by omega) u
          have HD : Hid (0 < j → d < j) := fun h0 => by rw [hd]; exact plc_lt by_ j h0
          clear hd
          go_wp2
          go_loopw [9] (fun i wr => ∃ k : Nat, i = .int .i64 k ∧ k ≤ j ∧ Two w wr (acc x k) (acc (fun t => x ((t + d) % j)) k)) (fun i _ => j - (numOf i).toNat)
          case atStart => exact ⟨0, rfl, by omega, HT3.out⟩
          case round =>
            obtain ⟨k, rfl, hk, hT⟩ := hrel
            have HT4 := hid hT
            clear hT HT3
            by_cases hlt : k < j
            · have e4 : decide ((k : Int) < j) = true := decide_eq_true (by omega)
              have hd := HD.out (by omega)
              obtain ⟨b0, off, rfl, okk, elk⟩ := HE.out k (by omega)
              obtain ⟨t, ht⟩ : ∃ t, t = (k + d) % j := ⟨_, rfl⟩
              have htj : t < j := by rw [ht]; exact Nat.mod_lt _ (by omega)
              obtain ⟨b1, off1, hbo, okt, elt⟩ := HE.out t (by omega)
              simp only [Option.some.injEq, Addr.mk.injEq, and_true] at hbo
              obtain ⟨rfl, rfl⟩ := hbo
              have m1 := acc_may x k (fun t ht => HM.out t (by omega))
              have m2 := acc_may (fun t => x ((t + d) % j)) k (fun t ht => HM.out _ (Nat.mod_lt _ (by omega)))
              have HS1 : Hid (cov (acc x k) (x k) = acc x (k + 1)) := rfl
              have HS2 : Hid (cov (acc (fun t => x ((t + d) % j)) k) (x t) = acc (fun t => x ((t + d) % j)) (k + 1)) := by simp only [Hid]; rw [ht]; rfl
              have o1 := (may_ok m1 (acc_plain x k (fun t ht => HM.out t (by omega))))
              have o2 := (may_ok m2 (acc_plain (fun t => x ((t + d) % j)) k (fun t ht => HM.out _ (Nat.mod_lt _ (by omega)))))
              have C1 := hid (fun w => cover_any (acc x k) (x k) o1 okk (fun he hf => cvr_ok (may_ck m1 he) (may_ck (HM.out k (by omega)) hf)) w)
              have C2 := hid (fun w => cover_any (acc (fun t => x ((t + d) % j)) k) (x t) o2 okt (fun he hf => cvr_ok (may_ck m2 he) (may_ck (HM.out t (by omega)) hf)) w)
              have CP := hid (HP.out (by omega))
              have hj0 : ¬ ((j : Int) = 0) := by omega
              have hadd : IntKind.i64.wrap ((k : Int) + (d : Int)) = (k : Int) + (d : Int) := by rw [IntKind.wrap_i64]; omega
              have hrem : ((k : Int) + (d : Int)).tmod (j : Int) = (t : Int) := by
                rw [ht, Int.tmod_eq_emod_of_nonneg (by omega)]
                simp
              clear m1 m2 o1 o2 okk okt ht
              generalize acc (fun t => x ((t + d) % j)) k = B at HT4 C2 HS2
              have HW := hid HT4.out.bel
              obtain ⟨_, c0, c1, c2, c3⟩ := elk.on HT4.out.bel
              obtain ⟨a0, a1, a2, a3⟩ := HT4.out.fst.all
              have hkn : (k : Int) < n := by omega
              have htn : (t : Int) < n := by omega
              clear elk
              go_upto_region 13 with fail
              go_cut [] from 34 to 56 (fun wc => Two w wc (acc x (k + 1)) B)
              case first =>
                go_region_with (go_at_call 22; refine (C1.out _).mono ?_; rintro e u ⟨rfl, hb⟩; have hT5 := HT4.out.on (Below.on (Below.refl _ _).drew hb); obtain ⟨r0, r1, r2, r3⟩ := hT5.fst.all; have fz := hT5.fst.fz)
                all_goals
                  go_wp2_with fail
                  go_meet
                  rw [← HS1.out]
                  exact hT5.st1 _
              case rest =>
                have HT5 := hid hcut
                clear hcut HT4 C1 c0 c1 c2 c3 a0 a1 a2 a3
                obtain ⟨_, c0, c1, c2, c3⟩ := elt.on HT5.out.bel
                obtain ⟨a0, a1, a2, a3⟩ := HT5.out.snd.all
                clear elt
                go_upto_region 14 with fail
                go_region_with (first | (go_at_call 19; refine (CP.out _).mono ?_; rintro e u ⟨rfl, rfl⟩) | (go_at_call 22; refine (C2.out _).mono ?_; rintro e u ⟨rfl, hb⟩; have hT6 := HT5.out.on (Below.on (Below.refl _ _).drew hb); obtain ⟨r0, r1, r2, r3⟩ := hT6.snd.all; have fz := hT6.snd.fz))
                all_goals
                  go_wp2
                  exact ⟨⟨k + 1, by go_num, by omega, by rw [← HS2.out]; exact hT6.st2 _⟩, by simp [numOf]; omega⟩
            · have e4 : decide ((k : Int) < j) = false := decide_eq_false (by omega)
              have hkj : k = j := by omega
              subst hkj
              have hq : acc (fun t => x ((t + d) % k)) k = acc x k := by
                rcases Nat.eq_zero_or_pos k with h0 | h0
                · subst h0; rfl
                · exact HQ.out h0
              have hT := HT4.out
              rw [hq] at hT
              obtain ⟨c0, c1, c2, c3⟩ := hT.fst.all
              obtain ⟨d0, d1, d2, d3⟩ := hT.snd.all
              have HW := hid hT.bel
              have q := eqlR (acc x k) (acc x k)
              rw [rceq_same] at q
              clear hT hq HT4
              go_wp2_with fail
              refine (awake_any _).mono ?_
              rintro e w5 ⟨rfl, hb5⟩
              go_wp2
              go_ret
              exact ⟨rfl, Below.on HW.out hb5⟩

theorem walk (a : Option Addr) (n c : Nat) (l : List (List Int)) (by_ : Int) (w : World) (hr : RdN 4 w a n c l) (hb : (Lit.int .i64 by_).wf = true) :
    Calls Try.prog 8 #[.slice a n c, .int .i64 by_] w fun e w' => e = .returned (.bool true) ∧ Below w.heap.size w w' := core a n c l by_ w hr (range64 hb)
end Go.Proofs.Ythencokiobakdaa.rectCovers
