/- ForestRoles: for all three numbers the call returns true; nothing that was there has turned. -/
import Derived.Test.YtdgknofpkafppabDoorBg
namespace Go.Proofs.YtdgknofpkafppabDoor.forestRoles
open Go Go.RowKit

/-- A line of surfaces. -/
def lin : Nat → Fo
  | 0 => []
  | i + 1 => if i = 0 then addF (lin i) 1 else subFB (addF (lin i) ((i + 1 : Nat) : Int)) ((i + 1 : Nat) : Int) ((i : Nat) : Int)
theorem f_add : ∀ j < 7, addE (lin j) ((j + 1 : Nat) : Int) = 0 := by decide
theorem f_sub : ∀ j < 7, 0 < j → subEB (addF (lin j) ((j + 1 : Nat) : Int)) ((j + 1 : Nat) : Int) ((j : Nat) : Int) = 0 := by decide
def chk : Bool := (List.range 8).all fun k => (List.range 8).all fun i => (List.range 8).all fun j => !(decide (2 ≤ k) && decide (1 ≤ i) && decide (i ≤ k) && decide (1 ≤ j) && decide (j ≤ k)) || subEB (lin k) ((i : Nat) : Int) ((j : Nat) : Int) == bif i == 1 then 11 else 10
theorem chk_all : chk = true := by decide
theorem f_role (k : Nat) (hk : k < 8) (i : Nat) (hi : i < 8) (j : Nat) (hj : j < 8) (h : 2 ≤ k ∧ 1 ≤ i ∧ i ≤ k ∧ 1 ≤ j ∧ j ≤ k) : subEB (lin k) ((i : Nat) : Int) ((j : Nat) : Int) = if i = 1 then 11 else 10 := by
  have h0 := chk_all
  unfold chk at h0
  have h1 := List.all_eq_true.1 (List.all_eq_true.1 (List.all_eq_true.1 h0 k (List.mem_range.2 hk)) i (List.mem_range.2 hi)) j (List.mem_range.2 hj)
  obtain ⟨a1, a2, a3, a4, a5⟩ := h
  simp only [a1, a2, a3, a4, a5, decide_true, Bool.and_self, Bool.not_true, Bool.false_or, beq_iff_eq] at h1
  rw [h1]
  by_cases e : i = 1
  · simp [e]
  · have : (i == 1) = false := by simpa using e
    rw [this, if_neg e]
    rfl
theorem f_none : ∀ k < 8, 2 ≤ k → ∀ i < 8, 1 ≤ i → i ≤ k → subEB (lin k) ((i : Nat) : Int) 99 = 5 := by decide
theorem f_pos : ∀ k < 8, 2 ≤ k → unsE (lin k) 1 = 10 := by decide
theorem f_par : ∀ k < 8, 2 ≤ k → parF (lin k) ((k : Nat) : Int) = ((k : Nat) : Int) - 1 := by decide
theorem sub_no {F : Fo} {id y : Int} (h : subEB F id y ≠ 0) : subFB F id y = F := by rw [subFB, if_neg h]
theorem pos_no {F : Fo} {id x y : Int} (h : unsE F id ≠ 0) : posF F id x y = F := by
  unfold unsE at h
  unfold posF
  cases hg : gt F id with
  | none => rfl
  | some s =>
    rw [hg] at h
    dsimp only at h ⊢
    split at h
    · rename_i h0
      rw [if_pos h0]
    · exact absurd rfl h

set_option maxRecDepth 100000 in
set_option maxHeartbeats 2000000 in
theorem core (a b c : Int) (w : World) (ha : -9223372036854775808 ≤ a ∧ a ≤ 9223372036854775807) (hb : -9223372036854775808 ≤ b ∧ b ≤ 9223372036854775807) (hc : -9223372036854775808 ≤ c ∧ c ≤ 9223372036854775807) (es : List Addr) (hE : Errs w gerrs es) :
    Calls Tryd.prog 3 #[.int .i64 a, .int .i64 b, .int .i64 c] w fun e w' => e = .returned (.bool true) ∧ Below w.heap.size w w' := by
  have hng := ng_of hE
  have HE := hid hE
  have CP := hid (place_any a 6 ha (by omega) (by omega))
  obtain ⟨k, hk⟩ : ∃ k, k = 2 + plc a 6 := ⟨_, rfl⟩
  have hk2 : 2 ≤ k ∧ k < 8 := by have := plc_lt a 6 (by omega); omega
  have hkk : 2 + (plc a 6 : Int) = (k : Int) := by omega
  have CB := hid (place_any b k hb (by omega) (by omega))
  have CC := hid (place_any c k hc (by omega) (by omega))
  obtain ⟨i, hi⟩ : ∃ i, i = 1 + plc b k := ⟨_, rfl⟩
  obtain ⟨j, hj⟩ : ∃ j, j = 1 + plc c k := ⟨_, rfl⟩
  have hi2 : 1 ≤ i ∧ i ≤ k := by have := plc_lt b k (by omega); omega
  have hj2 : 1 ≤ j ∧ j ≤ k := by have := plc_lt c k (by omega); omega
  have hii : 1 + (plc b k : Int) = (i : Int) := by omega
  have hjj : 1 + (plc c k : Int) = (j : Int) := by omega
  have CN := hid (fun w1 h1 h2 => pg_new (es := es) w w1 h1 h2 hng)
  clear hE ha hb hc hk hi hj
  go_enter Tryd.func3, Tryd.ntmps3
  go_wp2_with fail
  refine (CP.out w).mono ?_
  rintro e w1 ⟨rfl, rfl⟩
  have e1 : IntKind.i64.wrap (2 + (plc a 6 : Int)) = (k : Int) := by rw [hkk, IntKind.wrap_i64]; omega
  go_wp2_with fail
  refine (CN.out w1 (Below.refl _ _) (fe_of HE.out)).mono ?_
  rintro e w2 ⟨p, rfl, hp2, -⟩
  have HP2 := hid hp2
  clear hp2 CN CP
  go_wp2
  go_loopw [9] (fun v wr => ∃ n : Nat, v = .int .i64 ((n + 1 : Nat) : Int) ∧ n ≤ k ∧ Pg es w1 wr p (2 * n) (lin n)) (fun v _ => 10 - (numOf v).toNat)
  case atStart => exact ⟨0, rfl, by omega, HP2.out⟩
  case round =>
    obtain ⟨n, rfl, hn, hp⟩ := hrel
    clear HP2
    by_cases hgo : n < k
    · have e2 : decide (((n + 1 : Nat) : Int) ≤ (k : Int)) = true := decide_eq_true (by omega)
      have C1 := hid (hp.add (by omega) ((n + 1 : Nat) : Int) ⟨by omega, by omega⟩)
      rw [f_add n (by omega), erv0] at C1
      clear hp
      cases h0 : decide (((n + 1 : Nat) : Int) > 1)
      · have hn0 : n = 0 := by have := of_decide_eq_false h0; omega
        subst hn0
        go_wp2_with fail
        refine C1.out.mono ?_
        rintro e w3 ⟨rfl, hp3⟩
        have HP3 : Hid (Pg es w1 w3 p (2 * (0 + 1)) (lin (0 + 1))) := hp3.mono (by omega)
        clear hp3 C1
        go_wp2
        go_roundw
        case rel => exact ⟨1, by go_num, by omega, HP3.out⟩
        case measure => simp [numOf]
      · have hn0 : 0 < n := by have := of_decide_eq_true h0; omega
        have e3 : IntKind.i64.wrap (((n + 1 : Nat) : Int) - 1) = (n : Int) := by rw [IntKind.wrap_i64]; omega
        go_wp2_with fail
        refine C1.out.mono ?_
        rintro e w3 ⟨rfl, hp3⟩
        have C2 := hid (hp3.sub (by omega) ((n + 1 : Nat) : Int) (n : Int) ⟨by omega, by omega⟩ ⟨by omega, by omega⟩)
        rw [f_sub n (by omega) hn0, erv0] at C2
        clear hp3 C1
        go_wp2_with fail
        refine C2.out.mono ?_
        rintro e w4 ⟨rfl, hp4⟩
        have HP4 : Hid (Pg es w1 w4 p (2 * (n + 1)) (lin (n + 1))) := by
          rw [Hid, lin, if_neg (by omega)]
          exact hp4.mono (by omega)
        clear hp4 C2
        go_wp2
        go_roundw
        case rel => exact ⟨n + 1, by go_num, by omega, HP4.out⟩
        case measure => simp [numOf]; omega
    · have e2 : decide (((n + 1 : Nat) : Int) ≤ (k : Int)) = false := decide_eq_false (by omega)
      obtain rfl : n = k := by omega
      obtain ⟨hk2a, hk2b⟩ := hk2
      obtain ⟨hi2a, hi2b⟩ := hi2
      obtain ⟨hj2a, hj2b⟩ := hj2
      have fr := f_role n hk2b i (by omega) j (by omega) ⟨hk2a, hi2a, hi2b, hj2a, hj2b⟩
      have C1 := hid (hp.sub (by omega) (i : Int) (j : Int) ⟨by omega, by omega⟩ ⟨by omega, by omega⟩)
      rw [sub_no (by rw [fr]; split <;> omega)] at C1
      rw [fr] at C1
      have fn := f_none n hk2b hk2a i (by omega) hi2a hi2b
      have C2 : Hid (∀ W, Pg es w1 W p (2 * n + 1) (lin n) → Calls Tryd.prog 7 #[.pointer (some ⟨p, 0, none⟩), .int .i64 (i : Int), .int .i64 99] W fun e w' => e = .returned (erv es 5) ∧ Pg es w1 w' p (2 * n + 1 + 1) (lin n)) := fun W hW => by
        have := hW.sub (by omega) (i : Int) 99 ⟨by omega, by omega⟩ ⟨by decide, by decide⟩
        rw [sub_no (by rw [fn]; omega), fn] at this
        exact this
      have fp := f_pos n hk2b hk2a
      have C3 : Hid (∀ W, Pg es w1 W p (2 * n + 1 + 1) (lin n) → Calls Tryd.prog 9 #[.pointer (some ⟨p, 0, none⟩), .int .i64 1, .int .i64 0, .int .i64 0] W fun e w' => e = .returned (erv es 10) ∧ Pg es w1 w' p (2 * n + 1 + 1 + 1) (lin n)) := fun W hW => by
        have := hW.pos (by omega) 1 0 0 bt1
        rw [pos_no (by rw [fp]; omega), fp] at this
        exact this
      have fq := f_par n hk2b hk2a
      have C4 : Hid (∀ W, Pg es w1 W p (2 * n + 1 + 1 + 1) (lin n) → Calls Tryd.prog 10 #[.pointer (some ⟨p, 0, none⟩), .int .i64 (n : Int)] W fun e w' => e = .returned (.int .i64 ((n : Int) - 1)) ∧ Below W.heap.size W w') := fun W hW => by
        have := hW.par (n : Int) ⟨by omega, by omega⟩
        rw [fq] at this
        exact this
      have KD : Hid (∀ W, Below w1.heap.size w1 W → ∀ q, q ≤ 16 → Calls Tryd.prog 8 #[erv es q] W fun e w' => e = .returned (.int .i64 (q : Nat)) ∧ Below W.heap.size W w') := fun W hW q hq => kind_of (HE.out.below hW) hq
      have AW : Hid (∀ W, Below w1.heap.size w1 W → Calls Tryd.prog 11 #[] W fun e w' => e = .returned (.bool true) ∧ Below W.heap.size W w') := fun W hW => fawake_any W (fe_of (HE.out.below hW)) (Nat.le_trans hng hW.size)
      have e4 : IntKind.i64.wrap (1 + (plc b n : Int)) = (i : Int) := by rw [hii, IntKind.wrap_i64]; omega
      have e5 : IntKind.i64.wrap (1 + (plc c n : Int)) = (j : Int) := by rw [hjj, IntKind.wrap_i64]; omega
      have e6 : IntKind.i64.wrap ((n : Int) - 1) = (n : Int) - 1 := by rw [IntKind.wrap_i64]; omega
      clear hp fr fn fp fq
      go_wp2_with fail
      refine (CB.out wr).mono ?_
      rintro e w3 ⟨rfl, hw3⟩
      obtain rfl : wr = w3 := hw3.symm
      clear hw3
      go_wp2_with fail
      refine (CC.out wr).mono ?_
      rintro e w3 ⟨rfl, hw3⟩
      obtain rfl : wr = w3 := hw3.symm
      clear hw3 CB CC
      obtain ⟨t, ht⟩ : ∃ t : Nat, t = if i = 1 then 11 else 10 := ⟨_, rfl⟩
      rw [← ht] at C1
      have ht16 : t ≤ 16 := by rw [ht]; split <;> omega
      have HT := hid ht
      clear ht
      go_upto_if 49 with fail
      go_cut [12] (fun v wc => v = .int .i64 (t : Int) ∧ wc = wr)
      case first =>
        cases hi1 : ((i : Int) == 1)
        · have : t = 10 := by rw [HT.out, if_neg (by have : ¬ (i : Int) = 1 := by simpa using hi1
                                                     omega)]
          go_wp2
          go_meet
          rw [this]
          exact ⟨rfl, rfl⟩
        · have : t = 11 := by rw [HT.out, if_pos (by have : (i : Int) = 1 := by simpa using hi1
                                                     omega)]
          go_wp2
          go_meet
          rw [this]
          exact ⟨rfl, rfl⟩
      obtain ⟨rfl, hwc⟩ := hcut
      obtain rfl : wr = wc := hwc.symm
      clear hwc
      go_wp2_with fail
      refine C1.out.mono ?_
      rintro e w3 ⟨rfl, hp3⟩
      have HP3 := hid hp3
      have HB3 := hid hp3.bel
      clear hp3 C1
      go_wp2_with fail
      refine (KD.out w3 HB3.out t ht16).mono ?_
      rintro e w4 ⟨rfl, hb4⟩
      have HP4 := hid (HP3.out.on hb4)
      clear hb4 HP3 HB3
      go_wp2_with fail
      refine (C2.out w4 HP4.out).mono ?_
      rintro e w5 ⟨rfl, hp5⟩
      have HP5 := hid hp5
      have HB5 := hid hp5.bel
      clear hp5 HP4 C2
      go_wp2_with fail
      refine (KD.out w5 HB5.out 5 (by omega)).mono ?_
      rintro e w6 ⟨rfl, hb6⟩
      have HP6 := hid (HP5.out.on hb6)
      clear hb6 HP5 HB5
      go_wp2_with fail
      refine (C3.out w6 HP6.out).mono ?_
      rintro e w7 ⟨rfl, hp7⟩
      have HP7 := hid hp7
      have HB7 := hid hp7.bel
      clear hp7 HP6 C3
      go_wp2_with fail
      refine (KD.out w7 HB7.out 10 (by omega)).mono ?_
      rintro e w8 ⟨rfl, hb8⟩
      have HP8 := hid (HP7.out.on hb8)
      clear hb8 HP7 HB7
      go_wp2_with fail
      refine (C4.out w8 HP8.out).mono ?_
      rintro e w9 ⟨rfl, hb9⟩
      have HB9 := hid (Below.on HP8.out.bel hb9)
      clear hb9 HP8 C4
      go_wp2_with fail
      refine (AW.out w9 HB9.out).mono ?_
      rintro e w10 ⟨rfl, hb10⟩
      have HB10 := hid (Below.on HB9.out hb10)
      clear hb10 AW
      go_wp2
      go_ret
      exact ⟨rfl, HB10.out⟩

theorem walk (a0 a1 a2 : Int) (w : World) (w0 : (Lit.int .i64 a0).wf = true) (w1 : (Lit.int .i64 a1).wf = true) (w2 : (Lit.int .i64 a2).wf = true) (hL : laidMetH Tryd.prog Rows.forestRolesRow.laid w) :
    Calls Tryd.prog 3 #[.int .i64 a0, .int .i64 a1, .int .i64 a2] w fun e w' => e = .returned (.bool true) ∧ Below w.heap.size w w' := by
  obtain ⟨es, hE⟩ := errs16 hL
  have wf : ∀ {z : Int}, (Lit.int .i64 z).wf = true → -9223372036854775808 ≤ z ∧ z ≤ 9223372036854775807 := fun h => by simpa [Lit.wf, IntKind.min, IntKind.max, IntKind.signed, IntKind.bits] using h
  exact core a0 a1 a2 w (wf w0) (wf w1) (wf w2) es hE
end Go.Proofs.YtdgknofpkafppabDoor.forestRoles
