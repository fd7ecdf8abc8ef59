/- Repaint: the contracts of the program's at, same, place, places, and of the document's rect. -/
import Derived.Test.YtlkodgmnhphfcaaRpA
import Derived.Test.YtlkodgmnhphfcaaRgnP
import Derived.Test.YtlkodgmnhphfcaaLibJ
import Derived.Test.YtlkodgmnhphfcaaVwQ
namespace Go.Proofs.Ytlkodgmnhphfcaa
open Go Go.RowKit

theorem RdM.one {m : Nat} {w : World} {b off n c : Nat} {l : List (List Int)} (h : RdM m w (some ⟨b, off, none⟩) n c l) {i : Nat} {y : List Int} (hi : l[i]? = some y) : RdM m w (some ⟨b, off + i * m, none⟩) 1 1 [y] := by
  have hin : i < n := by
    rw [← h.len]
    exact (List.getElem?_eq_some_iff.1 hi).1
  obtain ⟨b', off', e, h1, h2⟩ := h.pl (by omega)
  cases e
  exact ⟨rfl, Nat.le_refl _, by decide, (fun h => by cases h), fun _ => ⟨b, off + i * m, rfl, h1, fun j y' hj k z hz => by
    match j, hj with
    | 0, hj =>
      cases hj
      rw [Nat.zero_mul, Nat.zero_add, Nat.add_assoc]
      exact h2 i y hi k z hz⟩, fun y' hy => by
    obtain rfl := List.mem_singleton.1 hy
    exact h.size _ (List.mem_of_getElem? hi)⟩
theorem RdM.zero {m : Nat} (w : World) (a : Option Addr) : RdM m w a 0 0 [] := ⟨rfl, Nat.le_refl _, Nat.zero_le _, fun _ => rfl, fun h => absurd h (by omega), by simp⟩

set_option maxRecDepth 100000 in
theorem qat_any (a : Option Addr) (n c : Nat) (l : List (List Int)) (w : World) (h : RdM 6 w a n c l) (i : Nat) (hi : i ≤ 1000000000) :
    Calls Try.prog 14 #[.slice a n c, .int .i64 i] w fun e w' => (∃ a', e = .returned (.slice a' (l[i]?).toList.length (l[i]?).toList.length) ∧ RdM 6 w a' (l[i]?).toList.length (l[i]?).toList.length (l[i]?).toList) ∧ w' = w := by
  have hle := h.le
  have hnil := h.hnil
  have hs := h.small
  by_cases hgo : i < n
  · obtain ⟨b, off, y, rfl, _, hy, _⟩ := h.at_ hgo
    have HR := hid (h.one hy)
    rw [hy]
    have e1 : min (i : Int) (n : Int) = (i : Int) := by omega
    have e2 : min ((i : Int) + 1) (n : Int) = ((i + 1 : Nat) : Int) := by omega
    have e3 : i ≤ i + 1 := by omega
    have e4 : i + 1 ≤ c := by omega
    obtain ⟨t, ht⟩ : ∃ t, i + 1 = t := ⟨_, rfl⟩
    have HT := hid ht
    rw [ht] at e2 e3 e4
    have e5 : t - i = 1 := by omega
    have e6 : t ≤ n := by omega
    clear h hy ht
    go_enter Try.func14, Try.ntmps14
    go_wp2
    go_ret
    exact ⟨⟨_, rfl, HR.out⟩, rfl⟩
  · have e0 : l[i]? = none := List.getElem?_eq_none (by rw [h.len]; omega)
    rw [e0]
    have e1 : min (i : Int) (n : Int) = (n : Int) := by omega
    have e2 : min ((i : Int) + 1) (n : Int) = (n : Int) := by omega
    clear h e0
    go_enter Try.func14, Try.ntmps14
    go_wp2
    go_ret
    exact ⟨⟨_, rfl, RdM.zero _ _⟩, rfl⟩

set_option maxRecDepth 100000 in
set_option maxHeartbeats 1000000 in
theorem qsame_any (a a' : Option Addr) (o v : Option (List Int)) (w : World) (h : RdM 6 w a o.toList.length o.toList.length o.toList) (h' : RdM 6 w a' v.toList.length v.toList.length v.toList) (hn : o ≠ none ∨ v ≠ none) :
    Calls Try.prog 15 #[.slice a o.toList.length o.toList.length, .slice a' v.toList.length v.toList.length] w fun e w' => e = .returned (.bool (decide (o = v))) ∧ ∃ q, w' = w.drewN q := by
  have hg := eqlM6_guard
  have hne := eqlM6
  cases o with
  | none =>
    cases v with
    | none => exact absurd hn (by simp)
    | some y =>
      rw [show decide ((none : Option (List Int)) = some y) = false by simp]
      clear h h' hn
      go_enter Try.func15, Try.ntmps15
      go_wp2
      go_quiet (fail)
      go_wp2
      go_ret
      exact ⟨rfl, _, rfl⟩
  | some x =>
    cases v with
    | none =>
      rw [show decide (some x = (none : Option (List Int))) = false by simp]
      clear h h' hn
      go_enter Try.func15, Try.ntmps15
      go_wp2
      go_quiet (fail)
      go_wp2
      go_ret
      exact ⟨rfl, _, rfl⟩
    | some y =>
      obtain ⟨blx, offx, x0, x1, x2, x3, x4, x5, rfl, _, hx, c0, c1, c2, c3, c4, c5⟩ := RdM.el6 (j := 0) h (show 0 < 1 by decide)
      obtain ⟨bly, offy, y0, y1, y2, y3, y4, y5, rfl, _, hy, d0, d1, d2, d3, d4, d5⟩ := RdM.el6 (j := 0) h' (show 0 < 1 by decide)
      simp only [Option.toList_some, List.getElem?_cons_zero, Option.some.injEq] at hx hy
      subst hx hy
      rw [Nat.zero_mul, Nat.add_zero] at c0 c1 c2 c3 c4 c5 d0 d1 d2 d3 d4 d5
      have hn0 := hne x0 x1 x2 x3 x4 x5 y0 y1 y2 y3 y4 y5
      have HE : Hid (decide (some [x0, x1, x2, x3, x4, x5] = some [y0, y1, y2, y3, y4, y5]) = leq [x0, x1, x2, x3, x4, x5] [y0, y1, y2, y3, y4, y5]) := by
        rw [Hid, leq]
        simp only [Option.some.injEq]
      rw [HE.out]
      generalize leq [x0, x1, x2, x3, x4, x5] [y0, y1, y2, y3, y4, y5] = r at hn0 ⊢
      clear h h' hn HE hne
      simp only [Option.toList_some, List.length_singleton]
      go_enter Try.func15, Try.ntmps15
      go_wp2
      go_quiet (fail)
      go_wp2
      go_ret
      exact ⟨rfl, _, rfl⟩

set_option maxRecDepth 100000 in
theorem qplace_any (z0 z1 z2 z3 z4 z5 : Int) (w : World) :
    Calls Try.prog 26 #[.agg #[.int .i64 z0, .int .i64 z1, .int .i64 z2, .int .i64 z3, .int .i64 z4, .int .i64 z5]] w fun e w' => e = .returned (.agg #[.int .i64 z2, .int .i64 z3, .int .i64 z4, .int .i64 z5]) ∧ Below w.heap.size w w' := by
  have hX := (bx_new (w.alloc (.cells #[.int .i64 z0, .int .i64 z1, .int .i64 z2, .int .i64 z3, .int .i64 z4, .int .i64 z5] 40)) ⟨z2, z3, z4, z5⟩).obj
  rw [size_new] at hX
  go_enter Try.func26, Try.ntmps26
  go_wp2
  refine bodyPost_ret (results_cell_row rfl _ _ (w.heap.size + 1) _ _ _ _ rfl hX Try.underlying36 rfl infoR) rfl ?_
  exact ⟨rfl, ((Below.refl _ _).alloc (Nat.le_refl _) _).alloc (by simp) _⟩

set_option maxRecDepth 100000 in
theorem qrrect_any (z0 z1 z2 z3 z4 z5 : Int) (w : World) :
    Calls Try.prog 21 #[.agg #[.int .i64 z0, .int .i64 z1, .int .i64 z2, .int .i64 z3, .int .i64 z4, .int .i64 z5]] w fun e w' => e = .returned (.agg #[.int .i64 z2, .int .i64 z3, .int .i64 z4, .int .i64 z5]) ∧ Below w.heap.size w w' := by
  have hX := (bx_new (w.alloc (.cells #[.int .i64 z0, .int .i64 z1, .int .i64 z2, .int .i64 z3, .int .i64 z4, .int .i64 z5] 40)) ⟨z2, z3, z4, z5⟩).obj
  rw [size_new] at hX
  go_enter Try.func21, Try.ntmps21
  go_wp2
  refine bodyPost_ret (results_cell_row rfl _ _ (w.heap.size + 1) _ _ _ _ rfl hX Try.underlying36 rfl infoR) rfl ?_
  exact ⟨rfl, ((Below.refl _ _).alloc (Nat.le_refl _) _).alloc (by simp) _⟩

set_option maxRecDepth 100000 in
set_option maxHeartbeats 1000000 in
theorem qplaces_any (a : Option Addr) (n c : Nat) (l : List (List Int)) (w : World) (h : RdM 6 w a n c l) (hv : ∀ y ∈ l, (vrc y).Ok) (hn : n ≤ 1000000) :
    Calls Try.prog 17 #[.slice a n c] w (Ret w (l.map vrc)) := by
  obtain ⟨i0, hi, hz0, hz1, hz2⟩ := info3 infoC
  have HR := hid h
  have HL := hid h.len
  have hs := h.small
  have HV : Hid (∀ j : Nat, ∀ r ∈ (l.take j).map vrc, r.Ok) := fun j r hr => by
    obtain ⟨y, hy, rfl⟩ := List.mem_map.1 hr
    exact hv y (List.mem_of_mem_take hy)
  clear h hv
  go_enter Try.func17, Try.ntmps17
  go_wp2
  go_loopw [3, 8] (fun v i wr => ∃ j : Nat, i = .int .i64 j ∧ j ≤ n ∧ OwC w wr v ((l.take j).map vrc)) (fun _ i _ => n - (numOf i).toNat)
  case atStart => exact ⟨0, rfl, by omega, OwC.nil w⟩
  case round =>
    obtain ⟨j, rfl, hj, hO⟩ := hrel
    have HO := hid hO
    have hvj := HV.out j
    have HT : Hid (((l.take j).map vrc).length = j) := by rw [Hid, List.length_map, List.length_take, HL.out]; omega
    obtain ⟨av, cv, rfl, _⟩ := rdc_of_owns hO.own hvj
    rw [HT.out] at HO ⊢
    clear hO hvj
    by_cases hgo : j < n
    · have e1 : decide ((j : Int) < n) = true := decide_eq_true (by omega)
      have e2 : (j : Int) < n := by omega
      obtain ⟨b, off, z0, z1, z2, z3, z4, z5, rfl, hb, hy, d0, d1, d2, d3, d4, d5⟩ := (HR.out.on HO.out.bel).el6 hgo
      have HS : Hid ((l.take (j + 1)).map vrc = (l.take j).map vrc ++ [⟨z2, z3, z4, z5⟩]) := by
        rw [Hid, List.take_add_one, hy, List.map_append]
        rfl
      have hA := bel_new wr (.cells #[.int .i64 z0, .int .i64 z1, .int .i64 z2, .int .i64 z3, .int .i64 z4, .int .i64 z5] 40)
      have HA := hid hA
      clear hy hA
      go_wp2_with fail
      refine (qplace_any z0 z1 z2 z3 z4 z5 _).mono ?_
      rintro e w2 ⟨rfl, hb2⟩
      have HO2 := hid (HO.out.on (Below.on HA.out hb2))
      have HSR := hid (srcR w2 ⟨z2, z3, z4, z5⟩)
      have HO3 := hid (HO2.out.on (below_new w2 (ob ⟨z2, z3, z4, z5⟩)))
      clear hb2 HO HO2 HA d0 d1 d2 d3 d4 d5
      go_wp2_with (at_builtin; refine wpList_append_own_src _ rfl (.tmp 12) (.tmp 15) 30 30 rfl w.heap.size 36 i0 (.agg #[.int .i64 0, .int .i64 0, .int .i64 0, .int .i64 0]) 4 32 Try.underlying30 hi hz0 hz1 hz2 rfl _ _ _ rfl HO3.out.own _ 1 _ rfl HSR.out (by rw [HT.out]; simp only [maxLen]; omega) (fits32 (by rw [HT.out]; omega)) HO3.out.size ?_; intro v3 w3 o3 g3; have HO5 := hid (HO3.out.grown (m := [⟨z2, z3, z4, z5⟩]) o3 g3); clear o3 g3)
      go_roundw
      case rel => exact ⟨j + 1, by go_num, by omega, by rw [HS.out]; exact HO5.out⟩
      case measure => simp [numOf]; omega
    · have e1 : decide ((j : Int) < n) = false := decide_eq_false (by omega)
      have HE : Hid (l.take j = l) := List.take_of_length_le (by rw [HL.out]; omega)
      have hF := HO.out.ret (HV.out j)
      rw [HE.out] at hF
      have HF := hid hF
      clear hF
      go_wp2
      go_ret
      exact HF.out
end Go.Proofs.Ytlkodgmnhphfcaa
