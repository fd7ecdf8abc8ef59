/- ShellAcks: for all three numbers the call returns true; nothing that was there has turned. -/
import Derived.Test.YtnlaegleekghmaaDoorShH
namespace Go.Proofs.YtnlaegleekghmaaDoor.shellAcks
open Go Go.RowKit

/-- 10, 20, .. -/
def tens (k : Nat) : List Int := (List.range k).map fun j : Nat => 10 * ((j : Int) + 1)
theorem tens_length (k : Nat) : (tens k).length = k := by simp [tens]
theorem tens_succ (k : Nat) : tens (k + 1) = tens k ++ [10 * ((k : Int) + 1)] := by simp [tens, List.range_succ]
theorem tens_get {k j : Nat} (h : j < k) : (tens k)[j]? = some (10 * ((j : Int) + 1)) := by simp [tens, h]
theorem tens_mem {k : Nat} {z : Int} (h : z ∈ tens k) : ∃ j : Nat, j < k ∧ z = 10 * ((j : Int) + 1) := by
  simp only [tens, List.mem_map, List.mem_range] at h
  obtain ⟨j, h1, h2⟩ := h
  exact ⟨j, h1, h2.symm⟩
theorem zx_tens {k i : Nat} (h : i < k) : zx (10 * ((i : Int) + 1)) (tens k) = some i := by
  rw [zx_drop (j := i) (fun j y hj hy => ?_), zx_at (tens_get h), if_pos rfl]
  · simp
  · rw [tens_get (by omega)] at hy
    cases hy
    omega
theorem zx_other {k : Nat} {z : Int} (h : ¬ (10 : Int) ∣ z) : zx z (tens k) = none := zx_none.2 fun hm => by
  obtain ⟨j, _, rfl⟩ := tens_mem hm
  exact h ⟨_, rfl⟩
theorem zx_gone {k i : Nat} : zx (10 * ((i : Int) + 1)) ((tens k).drop (i + 1)) = none := zx_none.2 fun hm => by
  obtain ⟨j, hj⟩ := List.getElem?_of_mem hm
  rw [List.getElem?_drop] at hj
  have hl := (List.getElem?_eq_some_iff.1 hj).1
  rw [tens_length] at hl
  rw [tens_get (by omega)] at hj
  simp only [Option.some.injEq] at hj
  omega
def one (l : List Int) : Wo := [(5, ⟨1, l⟩)]
theorem ack_noE {l : List Int} {z : Int} (h : zx z l = none) : wAckE (one l) 5 z = 13 := by
  show (if (zx z l).isSome = true then 0 else 13) = 13
  rw [h]
  rfl
theorem ack_noF {l : List Int} {z : Int} (h : zx z l = none) : wUp (one l) 5 (ackS z) = one l := by
  have : ackS z ⟨1, l⟩ = none := by
    show (match zx z l with | none => none | some i => some (⟨1, l.drop (i + 1)⟩ : Wn)) = none
    rw [h]
  show (match ackS z ⟨1, l⟩ with | none => one l | some y => st (one l) 5 y) = one l
  rw [this]
theorem ack_yesE {l : List Int} {z : Int} {i : Nat} (h : zx z l = some i) : wAckE (one l) 5 z = 0 := by
  show (if (zx z l).isSome = true then 0 else 13) = 0
  rw [h]
  rfl
theorem ack_yesF {l : List Int} {z : Int} {i : Nat} (h : zx z l = some i) : wUp (one l) 5 (ackS z) = one (l.drop (i + 1)) := by
  have : ackS z ⟨1, l⟩ = some ⟨1, l.drop (i + 1)⟩ := by
    show (match zx z l with | none => none | some i => some (⟨1, l.drop (i + 1)⟩ : Wn)) = _
    rw [h]
  show (match ackS z ⟨1, l⟩ with | none => one l | some y => st (one l) 5 y) = _
  rw [this]
  rfl

set_option maxRecDepth 100000 in
set_option maxHeartbeats 2000000 in
theorem core (a b c : Int) (w : World) (ha : -9223372036854775808 ≤ a ∧ a ≤ 9223372036854775807) (hb : -9223372036854775808 ≤ b ∧ b ≤ 9223372036854775807) (hc : -9223372036854775808 ≤ c ∧ c ≤ 9223372036854775807) (es : List Addr) (hE : Errs w gerrs es) :
    Calls Tryd.prog 4 #[.int .i64 a, .int .i64 b, .int .i64 c] w fun e w' => e = .returned (.bool true) ∧ Below w.heap.size w w' := by
  have CP := hid (place_any a 12 ha (by omega) (by omega))
  obtain ⟨k, hk⟩ : ∃ k, k = 1 + plc a 12 := ⟨_, rfl⟩
  have hk2 : 1 ≤ k ∧ k < 13 := by have := plc_lt a 12 (by omega); omega
  have hkk : 1 + (plc a 12 : Int) = (k : Int) := by omega
  have CB := hid (place_any b k hb (by omega) (by omega))
  obtain ⟨i, hi⟩ : ∃ i, i = plc b k := ⟨_, rfl⟩
  have hi2 : i < k := by have := plc_lt b k (by omega); omega
  rw [← hi] at CB
  have CN := hid (sp_new w w (Below.refl _ _) hE)
  have HD : Hid ((c.tmod 10 == 0) = false → ¬ (10 : Int) ∣ c) := fun h hd => by
    have := (Int.dvd_iff_tmod_eq_zero).1 hd
    rw [this] at h
    cases h
  have HD1 : Hid ((c.tmod 10 == 0) = true → ¬ (10 : Int) ∣ c + 1 ∧ -9223372036854775808 ≤ c ∧ c + 1 ≤ 9223372036854775807) := fun h => by
    have h1 : (10 : Int) ∣ c := (Int.dvd_iff_tmod_eq_zero).2 (beq_iff_eq.1 h)
    exact ⟨by omega, by omega, by omega⟩
  clear hE ha hb hc hk hi
  go_enter Tryd.func4, Tryd.ntmps4
  go_wp2_with fail
  refine (CP.out w).mono ?_
  rintro e w1 ⟨rfl, rfl⟩
  have e1 : IntKind.i64.wrap (1 + (plc a 12 : Int)) = (k : Int) := by rw [hkk, IntKind.wrap_i64]; omega
  go_wp2_with fail
  refine CN.out.mono ?_
  rintro e w2 ⟨p, X, rfl, hp2, -, -⟩
  have C1 : Hid (Calls Tryd.prog 10 #[.pointer (some ⟨p, 0, none⟩), .int .i64 5, .bool false] w2 fun e w' => e = .returned .nilIface ∧ Ex (Sp es w1 p 1 [(5, ⟨0, []⟩)]) w') := (sp_add (by decide) 5 bw5 false).ex ⟨X, hp2⟩
  clear hp2 CN CP
  go_wp2_with fail
  refine C1.out.mono ?_
  rintro e w3 ⟨rfl, hp3⟩
  have C2 : Hid (Calls Tryd.prog 14 #[.pointer (some ⟨p, 0, none⟩), .int .i64 5] w3 fun e w' => e = .returned .nilIface ∧ Ex (Sp es w1 p 2 [(5, ⟨1, []⟩)]) w') := (sp_top (by decide) 5 bw5).ex hp3
  clear hp3 C1
  go_wp2_with fail
  refine C2.out.mono ?_
  rintro e w4 ⟨rfl, hp4⟩
  have HP4 := hid hp4
  clear hp4 C2
  go_wp2
  go_loopw [9] (fun v wr => ∃ n : Nat, v = .int .i64 ((n + 1 : Nat) : Int) ∧ n ≤ k ∧ Ex (Sp es w1 p (2 + n) (one (tens n))) wr) (fun v _ => 14 - (numOf v).toNat)
  case atStart => exact ⟨0, rfl, by omega, HP4.out⟩
  case round =>
    obtain ⟨n, rfl, hn, hp⟩ := hrel
    clear HP4
    by_cases hgo : n < k
    · have e2 : decide (((n + 1 : Nat) : Int) ≤ (k : Int)) = true := decide_eq_true (by omega)
      have e3 : IntKind.i64.wrap (10 * ((n + 1 : Nat) : Int)) = 10 * ((n : Int) + 1) := by rw [IntKind.wrap_i64]; omega
      have C3 : Hid (Calls Tryd.prog 18 #[.pointer (some ⟨p, 0, none⟩), .int .i64 5, .int .i64 (10 * ((n + 1 : Nat) : Int))] wr fun e w' => e = .returned .nilIface ∧ Ex (Sp es w1 p (2 + (n + 1)) (one (tens (n + 1)))) w') := by
        have := (sp_snd (es := es) (w0 := w1) (p := p) (F := one (tens n)) (mm := 2 + n) (by omega) 5 bw5 (10 * ((n + 1 : Nat) : Int))).ex hp
        rw [Hid, tens_succ, show (10 * ((n : Int) + 1)) = 10 * ((n + 1 : Nat) : Int) by omega]
        exact this
      clear hp e3
      go_wp2_with fail
      refine C3.out.mono ?_
      rintro e w5 ⟨rfl, hp5⟩
      have HP5 := hid hp5
      clear hp5 C3
      go_wp2
      go_roundw
      case rel => exact ⟨n + 1, by go_num, by omega, HP5.out⟩
      case measure => simp [numOf]; omega
    · have e2 : decide (((n + 1 : Nat) : Int) ≤ (k : Int)) = false := decide_eq_false (by omega)
      obtain rfl : n = k := by omega
      obtain ⟨hk2a, hk2b⟩ := hk2
      have e4 : IntKind.i64.wrap (1 + (i : Int)) = (i : Int) + 1 := by rw [IntKind.wrap_i64]; omega
      have e5 : IntKind.i64.wrap (10 * (1 + (i : Int))) = 10 * ((i : Int) + 1) := by rw [IntKind.wrap_i64]; omega
      have HA1 : Hid (∀ x : Int, ¬ (10 : Int) ∣ x → Calls Tryd.prog 20 #[.pointer (some ⟨p, 0, none⟩), .int .i64 5, .int .i64 x] wr fun e w' => e = .returned (erv es 13) ∧ Ex (Sp es w1 p (2 + n + 1) (one (tens n))) w') := fun x hx => by
        have := (sp_ack (es := es) (w0 := w1) (p := p) (F := one (tens n)) (mm := 2 + n) (by omega) 5 bw5 x).ex hp
        rw [ack_noE (zx_other hx), ack_noF (zx_other hx)] at this
        exact this
      have HA2 : Hid (∀ W, Ex (Sp es w1 p (2 + n + 1) (one (tens n))) W → Calls Tryd.prog 20 #[.pointer (some ⟨p, 0, none⟩), .int .i64 5, .int .i64 (10 * ((i : Int) + 1))] W fun e w' => e = .returned .nilIface ∧ Ex (Sp es w1 p (2 + n + 1 + 1) (one ((tens n).drop (i + 1)))) w') := fun W hW => by
        have := (sp_ack (es := es) (w0 := w1) (p := p) (F := one (tens n)) (mm := 2 + n + 1) (by omega) 5 bw5 (10 * ((i : Int) + 1))).ex hW
        rw [ack_yesE (zx_tens hi2), ack_yesF (zx_tens hi2)] at this
        exact this
      have HA3 : Hid (∀ W, Ex (Sp es w1 p (2 + n + 1 + 1) (one ((tens n).drop (i + 1)))) W → Calls Tryd.prog 20 #[.pointer (some ⟨p, 0, none⟩), .int .i64 5, .int .i64 (10 * ((i : Int) + 1))] W fun e w' => e = .returned (erv es 13) ∧ Ex (Sp es w1 p (2 + n + 1 + 1 + 1) (one ((tens n).drop (i + 1)))) w') := fun W hW => by
        have := (sp_ack (es := es) (w0 := w1) (p := p) (F := one ((tens n).drop (i + 1))) (mm := 2 + n + 1 + 1) (by omega) 5 bw5 (10 * ((i : Int) + 1))).ex hW
        rw [ack_noE zx_gone, ack_noF zx_gone] at this
        exact this
      have HW1 : Hid (∀ W, Ex (Sp es w1 p (2 + n + 1) (one (tens n))) W → Calls Tryd.prog 30 #[.pointer (some ⟨p, 0, none⟩), .int .i64 5] W fun e w' => ∃ va vc, e = .returned (.slice va n vc) ∧ Ex (Sp es w1 p (2 + n + 1) (one (tens n))) w') := fun W hW =>
        (hW.waits (by omega) 5 bw5).mono fun _ _ ⟨va, vc, h1, _, h3⟩ => ⟨va, vc, by rw [h1, show (wSer (one (tens n)) 5).length = n from tens_length n], h3⟩
      have HW2 : Hid (∀ W, Ex (Sp es w1 p (2 + n + 1 + 1 + 1) (one ((tens n).drop (i + 1)))) W → Calls Tryd.prog 30 #[.pointer (some ⟨p, 0, none⟩), .int .i64 5] W fun e w' => ∃ va vc, e = .returned (.slice va (n - (i + 1)) vc) ∧ Rz w' va (n - (i + 1)) vc ((tens n).drop (i + 1)) ∧ Ex (Sp es w1 p (2 + n + 1 + 1 + 1) (one ((tens n).drop (i + 1)))) w') := fun W hW =>
        (hW.waits (by omega) 5 bw5).mono fun _ _ ⟨va, vc, h1, h2, h3⟩ => by
          have e : (wSer (one ((tens n).drop (i + 1))) 5).length = n - (i + 1) := by
            show ((tens n).drop (i + 1)).length = _
            rw [List.length_drop, tens_length]
          rw [e] at h1 h2
          exact ⟨va, vc, h1, h2, h3⟩
      have e6 : 1 + (i : Int) = (i : Int) + 1 := by omega
      clear hp
      have HG : Hid (∀ j : Nat, j < n - (i + 1) → ((tens n).drop (i + 1))[j]? = some (10 * ((i : Int) + 1 + 1 + (j : Int)))) := fun j hj => by
        rw [List.getElem?_drop, tens_get (by omega)]
        congr 1
        omega
      have hlen : (n : Int) - ((i : Int) + 1) = ((n - (i + 1) : Nat) : Int) := by omega
      obtain ⟨M, hM⟩ : ∃ M, M = n - (i + 1) := ⟨_, rfl⟩
      rw [← hM] at hlen HG HW2
      have hMs : M ≤ 13 := by omega
      have hMn : M ≤ n := by omega
      clear hM
      cases e7 : (c.tmod 10 == 0)
      all_goals
        (first | have hc9 := (HD1.out e7).2 | skip)
        go_wp2_with fail
        refine (CB.out wr).mono ?_
        rintro e w5 ⟨rfl, hw5⟩
        obtain rfl : wr = w5 := hw5.symm
        clear hw5
        go_wp2_with fail
        refine (HA1.out _ (by first | exact HD.out e7 | exact (HD1.out e7).1)).mono ?_
        rintro e w6 ⟨rfl, hp6⟩
        (try clear hc9)
        have K6 := hid (hp6.kind 13 (by decide))
        clear HA1 hp6 CB HD HD1
        go_wp2_with fail
        refine K6.out.mono ?_
        rintro e w7 ⟨rfl, hp7⟩
        have K7 := hid (HW1.out w7 hp7)
        clear K6 hp7 HW1
        go_wp2_with fail
        refine K7.out.mono ?_
        rintro e w8 ⟨va, vc, rfl, hp8⟩
        have K8 := hid (HA2.out w8 hp8)
        clear K7 hp8 HA2
        go_wp2_with fail
        refine K8.out.mono ?_
        rintro e w9 ⟨rfl, hp9⟩
        have K9 := hid (HA3.out w9 hp9)
        clear K8 hp9 HA3
        go_wp2_with fail
        refine K9.out.mono ?_
        rintro e w10 ⟨rfl, hp10⟩
        have K10 := hid (hp10.kind 13 (by decide))
        clear K9 hp10
        go_wp2_with fail
        refine K10.out.mono ?_
        rintro e w11 ⟨rfl, hp11⟩
        have K11 := hid (HW2.out w11 hp11)
        clear K10 hp11 HW2
        go_wp2_with fail
        refine K11.out.mono ?_
        rintro e w12 ⟨vb, vd, rfl, hr, hp12⟩
        have HR := hid hr
        have K12 := hid hp12.awake
        clear K11 hp12 hr
        go_wp2
        go_loopw [13] (fun v wr => ∃ j : Nat, v = .int .i64 (j : Int) ∧ j ≤ M ∧ wr = w12) (fun v _ => M - (numOf v).toNat)
        case atStart => exact ⟨0, rfl, by omega, rfl⟩
        case round =>
          obtain ⟨j, rfl, hj, rfl⟩ := hrel
          by_cases hgj : j < M
          · have e8 : decide ((j : Int) < (M : Int)) = true := decide_eq_true (by omega)
            have e9 : (j : Int) < (M : Int) := by omega
            obtain ⟨bl, off, z, rfl, _, hz, c0⟩ := HR.out.at_ hgj
            rw [HG.out j hgj, Option.some.injEq] at hz
            subst hz
            have e10 : ((10 * ((i : Int) + 1 + 1 + (j : Int))) != (10 * ((i : Int) + 1 + 1 + (j : Int)))) = false := by simp
            go_wp2
            go_roundw
            case rel => exact ⟨j + 1, by go_num, by omega, trivial⟩
            case measure => simp [numOf]; omega
          · have e8 : decide ((j : Int) < (M : Int)) = false := decide_eq_false (by omega)
            have e11 : ((M : Int) == (M : Int)) = true := by simp
            go_wp2_with fail
            refine K12.out.mono ?_
            rintro e w13 ⟨rfl, hb13⟩
            have HB := hid hb13
            clear hb13
            go_wp2
            go_ret
            exact ⟨rfl, HB.out⟩

theorem walk (a0 a1 a2 : Int) (w : World) (w0 : (Lit.int .i64 a0).wf = true) (w1 : (Lit.int .i64 a1).wf = true) (w2 : (Lit.int .i64 a2).wf = true) (hL : laidMetH Tryd.prog Rows.shellAcksRow.laid w) :
    Calls Tryd.prog 4 #[.int .i64 a0, .int .i64 a1, .int .i64 a2] w fun e w' => e = .returned (.bool true) ∧ Below w.heap.size w w' := by
  obtain ⟨es, hE⟩ := errs16 hL
  have wf : ∀ {z : Int}, (Lit.int .i64 z).wf = true → -9223372036854775808 ≤ z ∧ z ≤ 9223372036854775807 := fun h => by simpa [Lit.wf, IntKind.min, IntKind.max, IntKind.signed, IntKind.bits] using h
  exact core a0 a1 a2 w (wf w0) (wf w1) (wf w2) es hE
end Go.Proofs.YtnlaegleekghmaaDoor.shellAcks
