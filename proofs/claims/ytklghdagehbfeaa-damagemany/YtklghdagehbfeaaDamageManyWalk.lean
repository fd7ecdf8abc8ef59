/- DamageMany: for every number the call returns true; nothing that was there has turned. -/
import Derived.Test.YtklghdagehbfeaaDmgD
import Derived.Test.YtklghdagehbfeaaRgfH
namespace Go.Proofs.Ytklghdagehbfeaa.damageMany
open Go Go.RowKit

set_option maxRecDepth 100000 in
set_option maxHeartbeats 1000000 in
theorem core (x : Int) (hx : -9223372036854775808 ≤ x ∧ x ≤ 9223372036854775807) (w : World) :
    Calls Try.prog 5 #[.int .i64 x] w fun e w' => e = .returned (.bool true) ∧ Below w.heap.size w w' := by
  have q1 := plc_lt x 60 (by decide)
  have CP := hid (fun u => place_any x 60 hx (by decide) (by decide) u)
  generalize plc x 60 = K at q1 CP
  obtain ⟨i0, hi, hz0, hz1, hz2⟩ := info3 infoC
  have HOK : Hid (∀ j : Nat, j ≤ 60 → ∀ r ∈ cmb j, r.Ok) := fun j hj r hr => by
    obtain ⟨i, hi, rfl⟩ := List.mem_map.1 hr
    have := List.mem_range.1 hi
    constructor <;> dsimp only <;> omega
  go_enter Try.func5, Try.ntmps5
  go_wp2_with fail
  refine (CP.out _).mono ?_
  rintro e w1 ⟨rfl, rfl⟩
  clear CP
  go_wp2
  go_loopw [4, 5] (fun s4 s5 wr => ∃ j : Nat, s5 = .int .i64 j ∧ j ≤ K ∧ OwC w1 wr s4 (cmb j)) (fun _ s5 _ => K - (numOf s5).toNat)
  case atStart => exact ⟨0, rfl, by omega, OwC.nil _⟩
  case round =>
    obtain ⟨j, rfl, hj, hO⟩ := hrel
    have HO := hid hO
    clear hO
    by_cases hgo : j < K
    · have e1 : decide ((j : Int) < K) = true := decide_eq_true (by omega)
      have f1 : IntKind.i64.wrap (2 * (j : Int)) = 2 * (j : Int) := by rw [IntKind.wrap_i64]; omega
      have HS := hid (cmb_snoc j)
      have okr : (⟨2 * (j : Int), 0, 1, 1⟩ : Rc).Ok := by constructor <;> dsimp only <;> omega
      have HOA := hid (HO.out.on (below_new wr (ob ⟨2 * (j : Int), 0, 1, 1⟩)))
      rw [ob] at HOA
      have HSR := hid ((rdc_lit wr ⟨2 * (j : Int), 0, 1, 1⟩ okr).src (P := Try.prog) (t := 22) Try.underlying22)
      have hl := cmb_len j
      clear okr HO
      generalize cmb j = C at HOA HS hl
      go_wp2_with (at_builtin; refine wpList_append_own_src _ rfl (.tmp 14) (.tmp 18) 22 22 rfl w1.heap.size 24 i0 (.agg #[.int .i64 0, .int .i64 0, .int .i64 0, .int .i64 0]) 4 32 Try.underlying22 hi hz0 hz1 hz2 rfl _ _ _ rfl HOA.out.own _ _ _ rfl HSR.out (by simp only [maxLen]; omega) (fits32 (by omega)) HOA.out.size ?_; intro v9 w9 o9 g9; have H9 := hid (HOA.out.grown (m := [⟨2 * (j : Int), 0, 1, 1⟩]) o9 g9); clear o9 g9 HOA HSR)
      go_wp2
      go_roundw
      case rel => exact ⟨j + 1, by go_num, by omega, by rw [HS.out]; exact H9.out⟩
      case measure => simp [numOf]; omega
    · have e1 : decide ((j : Int) < K) = false := decide_eq_false (by omega)
      obtain rfl : j = K := by omega
      obtain ⟨a, c, rfl, hR⟩ := rdc_of_owns HO.out.own (HOK.out j (by omega))
      have HR := hid hR
      have HBel := hid HO.out.bel
      have CF := hid (fun u (h : RdC u a (cmb j).length c (cmb j)) => dflat_any a _ c (cmb j) u h)
      clear hR HO HOK e1 hgo hj
      rcases Nat.lt_or_ge 40 j with hg | hg
      · have e1 : decide ((j : Int) ≤ 40) = false := decide_eq_false (by omega)
        obtain ⟨k, rfl⟩ : ∃ k, j = 41 + k := ⟨j - 41, by omega⟩
        rw [dfl_many (by omega)] at CF
        have hl := lne_len 81 k
        have f1 : IntKind.i64.wrap (((41 + k : Nat) : Int) - 40) = (k : Int) + 1 := by rw [IntKind.wrap_i64]; omega
        have eg := eqlR_guard
        have r1 := eqlR ⟨0, 0, 81, 1⟩ ⟨0, 0, 81, 1⟩
        rw [rceq_same] at r1
        dsimp only at r1
        go_wp2_with fail
        refine (CF.out _ HR.out).mono ?_
        rintro e w2 ⟨a2, c2, rfl, h2, hb2⟩
        rw [hl] at h2 ⊢
        replace HBel := hid (Below.on HBel.out hb2)
        have e2 : decide (((k + 1 : Nat) : Int) = (k : Int) + 1) = true := decide_eq_true (by omega)
        have e3 : (((k + 1 : Nat) : Int) == (k : Int) + 1) = true := by simp
        obtain ⟨b, off, rfl, _, hel⟩ := h2.pl (by omega)
        obtain ⟨_, d0, d1, d2, d3⟩ := hel 0 ⟨0, 0, 81, 1⟩ rfl
        simp only [Nat.zero_mul, Nat.add_zero] at d0 d1 d2 d3
        clear hb2 h2 hel HR CF
        go_wp2_with fail
        refine (dawake_any _).mono ?_
        rintro e w3 ⟨rfl, hb3⟩
        replace HBel := hid (Below.on HBel.out hb3)
        clear hb3
        go_wp2
        go_ret
        exact ⟨rfl, HBel.out⟩
      · have e1 : decide ((j : Int) ≤ 40) = true := decide_eq_true (by omega)
        rw [dfl_cmb hg] at CF
        generalize cmb j = C at HR CF ⊢
        go_wp2_with fail
        refine (CF.out _ HR.out).mono ?_
        rintro e w2 ⟨a2, c2, rfl, h2, hb2⟩
        have H2 := hid h2
        replace HR := hid (HR.out.on hb2)
        replace HBel := hid (Below.on HBel.out hb2)
        clear hb2 h2 CF
        go_wp2_with fail
        refine (same_reg H2.out HR.out rfl).mono ?_
        rintro e w3 ⟨rfl, hb3⟩
        replace HBel := hid (Below.on HBel.out hb3)
        clear hb3
        go_wp2_with fail
        refine (dawake_any _).mono ?_
        rintro e w4 ⟨rfl, hb4⟩
        replace HBel := hid (Below.on HBel.out hb4)
        clear hb4
        go_wp2
        go_ret
        exact ⟨rfl, HBel.out⟩

theorem walk (x : Int) (w : World) (hx : (Lit.int .i64 x).wf = true) :
    Calls Try.prog 5 #[.int .i64 x] w fun e w' => e = .returned (.bool true) ∧ Below w.heap.size w w' := core x (range64 hx) w
end Go.Proofs.Ytklghdagehbfeaa.damageMany
