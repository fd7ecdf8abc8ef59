/- A seat of the law's own, call by call; notes compared; awake. -/
import Derived.Test.YtegmolmjoiklpaaSeG
import Derived.Laws.StructEq
namespace Go.Proofs.Ytegmolmjoiklpaa
open Go Go.RowKit Go.Shelf

theorem eqlN_guard (x y : Operand) (xs ys : Array Value) (w : World) : (eqGuard .eql 56 x y (.agg xs) (.agg ys)).run Try.prog w = .ok () w := run_eqGuard_agg w .eql 56 x y xs ys (by kernel_rfl)
theorem neqN_guard (x y : Operand) (xs ys : Array Value) (w : World) : (eqGuard .neq 56 x y (.agg xs) (.agg ys)).run Try.prog w = .ok () w := run_eqGuard_agg w .neq 56 x y xs ys (by kernel_rfl)
def nteq (a0 a1 a2 a3 b0 b1 b2 b3 : Int) : Bool := a0 == b0 && (a1 == b1 && (a2 == b2 && a3 == b3))
theorem nteq_same (a0 a1 a2 a3 : Int) : nteq a0 a1 a2 a3 a0 a1 a2 a3 = true := by simp [nteq]
theorem equalN (a0 a1 a2 a3 b0 b1 b2 b3 : Int) (w : World) : (Op.equalIn 10000 56 (.agg #[.int .i64 a0, .int .i64 a1, .int .i64 a2, .int .i64 a3]) (.agg #[.int .i64 b0, .int .i64 b1, .int .i64 b2, .int .i64 b3])).run Try.prog w = .ok (nteq a0 a1 a2 a3 b0 b1 b2 b3) w := by
  have u3 := Try.underlying3
  have a3' := Try.isAgg3
  have z3 := Try.sizeOf3
  have hS : Try.prog.underlying 56 = some (.struct (Try.prog.fieldsOf 56)) := by kernel_rfl
  have hp : Try.prog.stoodInHeld 56 = false := by kernel_rfl
  rw [show (10000 : Nat) = 9999 + 1 from rfl, run_equalIn_agg w 9999 56 _ _ hS hp]
  simp only [Program.fieldsOf, Try.underlying56]
  go_simp
  unfold nteq
  by_cases h1 : a0 = b0 <;> by_cases h2 : a1 = b1 <;> by_cases h3 : a2 = b2 <;> by_cases h4 : a3 = b3 <;> simp [h1, h2, h3, h4]
theorem eqlN (a0 a1 a2 a3 b0 b1 b2 b3 : Int) (w : World) : (binOp .eql 56 (.agg #[.int .i64 a0, .int .i64 a1, .int .i64 a2, .int .i64 a3]) (.agg #[.int .i64 b0, .int .i64 b1, .int .i64 b2, .int .i64 b3])).run Try.prog w = .ok (.bool (nteq a0 a1 a2 a3 b0 b1 b2 b3)) w := by
  rw [run_eql_struct, equalN]
  rfl
theorem neqN (a0 a1 a2 a3 b0 b1 b2 b3 : Int) (w : World) : (binOp .neq 56 (.agg #[.int .i64 a0, .int .i64 a1, .int .i64 a2, .int .i64 a3]) (.agg #[.int .i64 b0, .int .i64 b1, .int .i64 b2, .int .i64 b3])).run Try.prog w = .ok (.bool (!nteq a0 a1 a2 a3 b0 b1 b2 b3)) w := by
  rw [run_neq_struct, equalN]
  rfl

/-- A seat of the law's own. -/
structure Sw (w0 w : World) (p : Nat) (x y P K : Int) : Prop where
  bel : Below w0.heap.size w0 w
  se : Se w p x y P K
  new : w0.heap.size ≤ p
theorem Sw.on {w0 w u : World} {p : Nat} {x y P K : Int} (h : Sw w0 w p x y P K) (hb : Below w.heap.size w u) : Sw w0 u p x y P K := ⟨Below.on h.bel hb, h.se.on hb, h.new⟩
theorem Sw.then {w0 w u : World} {p : Nat} {x y P K x' y' P' K' : Int} (h : Sw w0 w p x y P K) (hk : Kp [p] w u) (hs : Se u p x' y' P' K') : Sw w0 u p x' y' P' K' :=
  ⟨h.bel.trans (hk.below h.bel.size (fun k hm => by
    simp only [List.mem_cons, List.not_mem_nil, or_false] at hm
    rw [hm]
    exact h.new)), hs, h.new⟩
theorem swnew (w : World) : Calls Try.prog 8 #[] w fun e w' => e = .returned (.pointer (some ⟨w.heap.size, 0, none⟩)) ∧ Sw w w' w.heap.size 0 0 0 0 :=
  (snew_any w).mono fun _ _ h => ⟨h.1, h.2.2, h.2.1, Nat.le_refl _⟩

/-- The document's example's surface, and what is told there. -/
def hEx : Ht := ⟨4, 1, 1, 5, 5, true, none, 0, 0, []⟩
theorem ex_at : atL [hEx] (clp 2) (clp 3) = (4, 1, 2) := by decide
theorem ex_mv1 : movN 0 4 1 2 = [[1, 4, 1, 2]] := by decide
theorem ex_mv2 : movN 4 4 1 2 = [[3, 4, 1, 2]] := by decide
theorem rdh_ex (U : World) : RdH (U.alloc (.cells (htv hEx) 61)) (some ⟨U.heap.size, 0, none⟩) 1 1 [hEx] := by
  have h0 := hp_nw U (.cells (htv hEx) 61) rfl
  refine ⟨rfl, Nat.le_refl _, by simp [maxLen], (fun h => by cases h), fun _ => ⟨_, 0, rfl, by simp, fun j y hy => ?_⟩, ?_, ?_⟩
  · match j, hy with
    | 0, hy =>
      cases hy
      obtain ⟨c0, c1, c2, c3, c4, c5, c6⟩ := hcells h0
      exact ⟨c0, c1, c2, c3, c4, c5, c6⟩
  · intro h hm
    simp only [List.mem_cons, List.not_mem_nil, or_false] at hm
    subst hm
    exact RdM.nil 4 _
  · intro h hm
    simp only [List.mem_cons, List.not_mem_nil, or_false] at hm
    subst hm
    exact ⟨by decide, by decide, by decide, by decide, by decide, fun r hr => by cases hr⟩

set_option maxRecDepth 100000 in
set_option maxHeartbeats 1000000 in
theorem sawake_any (w : World) : Calls Try.prog 10 #[] w fun e w' => e = .returned (.bool true) ∧ Below w.heap.size w w' := by
  have hq := eqlN 1 4 1 2 1 4 1 2
  have hg := eqlN_guard
  rw [nteq_same] at hq
  go_enter Try.func10, Try.ntmps10
  go_wp2_with fail
  refine (swnew w).mono ?_
  rintro e w1 ⟨rfl, h1⟩
  have hlt := h1.se.lt
  obtain ⟨W2, hW2⟩ : ∃ W2, W2 = w1.alloc (.cells (htv hEx) 61) := ⟨_, rfl⟩
  have hr2 : RdH W2 (some ⟨w1.heap.size, 0, none⟩) 1 1 [hEx] := by rw [hW2]; exact rdh_ex w1
  have h2 : Sw w W2 w.heap.size 0 0 0 0 := by rw [hW2]; exact h1.on (bel_nw w1 _)
  have hap : Apt [w.heap.size] (some ⟨w1.heap.size, 0, none⟩) 1 [hEx] := ⟨fun x hx _ hm => by
    cases hx
    simp only [List.mem_cons, List.not_mem_nil, or_false] at hm
    omega, fun h hm x hx => by
    simp only [List.mem_cons, List.not_mem_nil, or_false] at hm
    subst hm
    cases hx⟩
  have C1 := hid (smove_any h2.se 2 3 _ 1 1 [hEx] hr2 hap)
  rw [ex_at] at C1
  simp only [ex_mv1] at C1
  have H2 := hid h2
  have HR2 := hid hr2
  have HAP := hid hap
  have HW2 := hid hW2
  clear h1 h2 hr2 hap
  simp only [htv, hEx] at hW2
  generalize w.heap.size = g at *
  go_wp2_with fail
  rw [← hW2]
  refine C1.out.mono ?_
  rintro e w3 ⟨v3, rfl, hR3⟩
  have h3 := H2.out.then hR3.kp hR3.se
  have hr3 := HR2.out.kp hR3.kp HAP.out
  obtain ⟨a3, c3, rfl, hd3, hl3⟩ := hR3.rd
  have C2 := hid (smove_any h3.se 2 3 _ 1 1 [hEx] hr3 HAP.out)
  rw [ex_at] at C2
  simp only [ex_mv2] at C2
  have H3 := hid h3
  have HD3 := hid hd3
  have HL3 := hid hl3
  have hlg := h3.se.lt
  clear hR3 h3 hr3 hd3 hl3 hW2 C1
  go_wp2_with fail
  refine C2.out.mono ?_
  rintro e w4 ⟨v4, rfl, hR4⟩
  have h4 := H3.out.then hR4.kp hR4.se
  obtain ⟨a4, c4, rfl, hd4, _⟩ := hR4.rd
  have hd34 := HD3.out.kp hR4.kp (fun x hx _ hm => by
    have := HL3.out x hx
    have hg := H2.out.se.lt
    simp only [List.mem_cons, List.not_mem_nil, or_false] at hm
    omega)
  obtain ⟨b, off, z0, z1, z2, z3, rfl, _, e0, d0, d1, d2, d3⟩ := hd34.el4 (j := 0) (by decide)
  obtain ⟨b', off', y0, y1, y2, y3, rfl, _, e0', d0', d1', d2', d3'⟩ := hd4.el4 (j := 0) (by decide)
  cases e0
  cases e0'
  have H4 := hid h4
  clear hR4 h4 hd34 hd4 C2
  simp only [Nat.zero_mul, Nat.add_zero] at d0 d1 d2 d3 d0' d1' d2' d3'
  go_wp2
  go_ret
  exact ⟨rfl, H4.out.bel⟩
end Go.Proofs.Ytegmolmjoiklpaa
