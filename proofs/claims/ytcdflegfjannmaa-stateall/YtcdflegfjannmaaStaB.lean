/- Slices of rectangles, numbers and children: compared, copied, joined. Written by state/mk_stab.py. -/
import Derived.Test.YtcdflegfjannmaaStaA
import Derived.Test.YtcdflegfjannmaaChecked
import Derived.Laws.StructEq
import Derived.BigQuiet
namespace Go.Proofs.Ytcdflegfjannmaa
open Go Go.RowKit

theorem infoMP {P : Program} {e : TypeId} {z : Value} {n m : Nat} (h : (P.info? e).map (fun i => (i.zero, i.size, i.bytes)) = some (some z, n, m)) : ∃ i, P.info? e = some i ∧ i.zero = some z ∧ i.size = n ∧ i.bytes = m := by
  obtain ⟨i, hi, hz⟩ := Option.map_eq_some_iff.1 h
  simp only [Prod.mk.injEq] at hz
  exact ⟨i, hi, hz.1, hz.2.1, hz.2.2⟩
theorem fitsM {need b : Nat} (h : need ≤ 1000000000) (hb : b ≤ 32) : ∀ old, old < need → Builtin.nextslicecap need old * b ≤ 281474976710656 := fun old ho => by
  have h1 := nextslicecap_near ho
  have h2 : Builtin.nextslicecap need old * b ≤ Builtin.nextslicecap need old * 32 := Nat.mul_le_mul_left _ hb
  omega

/-- Whether two are the same. -/
def leq (x y : List Int) : Bool := decide (x = y)
def leqs (l m : List (List Int)) : Bool := decide (l = m)
theorem leqs_cons (x y : List Int) (l m : List (List Int)) : leqs (x :: l) (y :: m) = (leq x y && leqs l m) := by
  unfold leqs leq
  rw [Bool.eq_iff_iff]
  simp
theorem leqs_len {l m : List (List Int)} (h : l.length ≠ m.length) : leqs l m = false := by
  unfold leqs
  rw [decide_eq_false_iff_not]
  intro e
  exact h (by rw [e])
theorem leqs_same (l : List (List Int)) : leqs l l = true := decide_eq_true rfl
theorem leq_one (x y : Int) : leq [x] [y] = (x == y) := by
  unfold leq
  rw [Bool.eq_iff_iff]
  simp

/-- A row of slices: each cell of the block B bears one. -/
structure RdL (m : Nat) (w : World) (B : Nat) (L : List (List (List Int))) : Prop where
  each : ∀ (j : Nat) l, L[j]? = some l → ∃ a n c, w.cell? ⟨B, j, none⟩ = some (.slice a n c) ∧ RdM m w a n c l ∧ B < w.heap.size
theorem RdL.on {m : Nat} {w u : World} {B : Nat} {L : List (List (List Int))} (h : RdL m w B L) (hb : Below w.heap.size w u) : RdL m u B L :=
  ⟨fun j l hl => by
    obtain ⟨a, n, c, h1, h2, h3⟩ := h.each j l hl
    exact ⟨a, n, c, by rw [hb.cell h3]; exact h1, h2.on hb, Nat.lt_of_lt_of_le h3 hb.size⟩⟩
theorem flatten_take_snoc {L : List (List (List Int))} {j : Nat} {l : List (List Int)} (h : L[j]? = some l) : (L.take (j + 1)).flatten = (L.take j).flatten ++ l := by
  rw [List.take_add_one, h]
  simp
theorem flatten_take_le (L : List (List (List Int))) (j : Nat) : (L.take j).flatten.length ≤ L.flatten.length := by
  have : L.flatten = (L.take j).flatten ++ (L.drop j).flatten := by rw [← List.flatten_append, List.take_append_drop]
  rw [this, List.length_append]
  omega

theorem eqlM4_guard (x y : Operand) (xs ys : Array Value) (w : World) : (eqGuard .eql 48 x y (.agg xs) (.agg ys)).run Try.prog w = .ok () w := run_eqGuard_agg w .eql 48 x y xs ys (by kernel_rfl)
theorem neqM4_guard (x y : Operand) (xs ys : Array Value) (w : World) : (eqGuard .neq 48 x y (.agg xs) (.agg ys)).run Try.prog w = .ok () w := run_eqGuard_agg w .neq 48 x y xs ys (by kernel_rfl)
theorem equalM4 (x0 x1 x2 x3 y0 y1 y2 y3 : Int) (w : World) : (Op.equalIn 10000 48 (.agg #[.int .i64 x0, .int .i64 x1, .int .i64 x2, .int .i64 x3]) (.agg #[.int .i64 y0, .int .i64 y1, .int .i64 y2, .int .i64 y3])).run Try.prog w = .ok (leq [x0, x1, x2, x3] [y0, y1, y2, y3]) w := by
  have u3 := Try.underlying3
  have a3 := Try.isAgg3
  have z3 := Try.sizeOf3
  have hS : Try.prog.underlying 48 = some (.struct (Try.prog.fieldsOf 48)) := by kernel_rfl
  have hp : Try.prog.stoodInHeld 48 = false := by kernel_rfl
  rw [show (10000 : Nat) = 9999 + 1 from rfl, run_equalIn_agg w 9999 48 _ _ hS hp]
  simp only [Program.fieldsOf, Try.underlying48]
  go_simp
  unfold leq
  by_cases h0 : x0 = y0 <;> by_cases h1 : x1 = y1 <;> by_cases h2 : x2 = y2 <;> by_cases h3 : x3 = y3 <;> simp [h0, h1, h2, h3]
theorem eqlM4 (x0 x1 x2 x3 y0 y1 y2 y3 : Int) (w : World) : (binOp .eql 48 (.agg #[.int .i64 x0, .int .i64 x1, .int .i64 x2, .int .i64 x3]) (.agg #[.int .i64 y0, .int .i64 y1, .int .i64 y2, .int .i64 y3])).run Try.prog w = .ok (.bool (leq [x0, x1, x2, x3] [y0, y1, y2, y3])) w := by
  rw [run_eql_struct, equalM4]
  rfl
theorem neqM4 (x0 x1 x2 x3 y0 y1 y2 y3 : Int) (w : World) : (binOp .neq 48 (.agg #[.int .i64 x0, .int .i64 x1, .int .i64 x2, .int .i64 x3]) (.agg #[.int .i64 y0, .int .i64 y1, .int .i64 y2, .int .i64 y3])).run Try.prog w = .ok (.bool (!leq [x0, x1, x2, x3] [y0, y1, y2, y3])) w := by
  rw [run_neq_struct, equalM4]
  rfl

theorem eqlM3_guard (x y : Operand) (xs ys : Array Value) (w : World) : (eqGuard .eql 28 x y (.agg xs) (.agg ys)).run Try.prog w = .ok () w := run_eqGuard_agg w .eql 28 x y xs ys (by kernel_rfl)
theorem neqM3_guard (x y : Operand) (xs ys : Array Value) (w : World) : (eqGuard .neq 28 x y (.agg xs) (.agg ys)).run Try.prog w = .ok () w := run_eqGuard_agg w .neq 28 x y xs ys (by kernel_rfl)
theorem equalM3 (x0 x1 x2 y0 y1 y2 : Int) (w : World) : (Op.equalIn 10000 28 (.agg #[.int .i64 x0, .int .i64 x1, .int .i64 x2]) (.agg #[.int .i64 y0, .int .i64 y1, .int .i64 y2])).run Try.prog w = .ok (leq [x0, x1, x2] [y0, y1, y2]) w := by
  have u3 := Try.underlying3
  have a3 := Try.isAgg3
  have z3 := Try.sizeOf3
  have hS : Try.prog.underlying 28 = some (.struct (Try.prog.fieldsOf 28)) := by kernel_rfl
  have hp : Try.prog.stoodInHeld 28 = false := by kernel_rfl
  rw [show (10000 : Nat) = 9999 + 1 from rfl, run_equalIn_agg w 9999 28 _ _ hS hp]
  simp only [Program.fieldsOf, Try.underlying28]
  go_simp
  unfold leq
  by_cases h0 : x0 = y0 <;> by_cases h1 : x1 = y1 <;> by_cases h2 : x2 = y2 <;> simp [h0, h1, h2]
theorem eqlM3 (x0 x1 x2 y0 y1 y2 : Int) (w : World) : (binOp .eql 28 (.agg #[.int .i64 x0, .int .i64 x1, .int .i64 x2]) (.agg #[.int .i64 y0, .int .i64 y1, .int .i64 y2])).run Try.prog w = .ok (.bool (leq [x0, x1, x2] [y0, y1, y2])) w := by
  rw [run_eql_struct, equalM3]
  rfl
theorem neqM3 (x0 x1 x2 y0 y1 y2 : Int) (w : World) : (binOp .neq 28 (.agg #[.int .i64 x0, .int .i64 x1, .int .i64 x2]) (.agg #[.int .i64 y0, .int .i64 y1, .int .i64 y2])).run Try.prog w = .ok (.bool (!leq [x0, x1, x2] [y0, y1, y2])) w := by
  rw [run_neq_struct, equalM3]
  rfl

set_option maxRecDepth 100000 in
set_option maxHeartbeats 1000000 in
theorem equal4_any (a a' : Option Addr) (n c n' c' : Nat) (l m : List (List Int)) (w : World) (h : RdM 4 w a n c l) (h' : RdM 4 w a' n' c' m) :
    Calls Try.prog 35 #[.slice a n c, .slice a' n' c'] w fun e w' => e = .returned (.bool (leqs l m)) ∧ ∃ q, w' = w.drewN q := by
  have hl := h.len
  have hl' := h'.len
  have hn63 := h.small.1
  have hn63' := h'.small.1
  have hg := neqM4_guard
  have hne := neqM4
  by_cases hnn : n = n'
  · subst hnn
    have H := hid h
    have H' := hid h'
    have HL := hid hl
    have HL' := hid hl'
    clear h h' hl hl'
    go_enter Try.func35, Try.ntmps35
    go_wp2
    go_loopw [13] (fun i wr => ∃ j : Nat, i = .int .i64 j ∧ j ≤ n ∧ leqs (l.drop j) (m.drop j) = leqs l m ∧ ∃ q, wr = w.drewN q) (fun i _ => n - (numOf i).toNat)
    case atStart => exact ⟨0, rfl, by omega, rfl, 0, rfl⟩
    case round =>
      obtain ⟨j, rfl, hj, hq, q, rfl⟩ := hrel
      by_cases hgo : j < n
      · have e1 : decide ((j : Int) < n) = true := decide_eq_true (by omega)
        have e2 : (j : Int) < n := by omega
        obtain ⟨blx, offx, x0, x1, x2, x3, rfl, _, hx, c0, c1, c2, c3⟩ := H.out.el4 hgo
        obtain ⟨bly, offy, y0, y1, y2, y3, rfl, _, hy, d0, d1, d2, d3⟩ := H'.out.el4 hgo
        have HD : Hid (leqs l m = (leq [x0, x1, x2, x3] [y0, y1, y2, y3] && leqs (l.drop (j + 1)) (m.drop (j + 1)))) := by
          rw [Hid, ← hq, drop_at' hx, drop_at' hy, leqs_cons]
        clear hx hy hq
        have hn0 := hne x0 x1 x2 x3 y0 y1 y2 y3
        cases hs : leq [x0, x1, x2, x3] [y0, y1, y2, y3]
        · rw [hs] at hn0
          have HE : Hid (leqs l m = false) := by rw [Hid, HD.out, hs]; rfl
          clear HD
          go_wp2
          go_quiet (fail)
          go_wp2
          go_ret
          rw [HE.out, World.drewN_drewN]
          exact ⟨rfl, _, rfl⟩
        · rw [hs] at hn0
          have HE : Hid (leqs (l.drop (j + 1)) (m.drop (j + 1)) = leqs l m) := by rw [Hid, HD.out, hs]; rfl
          clear HD
          go_wp2
          go_quiet (fail)
          go_wp2
          go_roundw
          case rel => exact ⟨j + 1, by go_num, by omega, HE.out, _, rfl⟩
          case measure => simp [numOf]; omega
      · have e1 : decide ((j : Int) < n) = false := decide_eq_false (by omega)
        have HE : Hid (leqs l m = true) := by
          rw [Hid, ← hq, List.drop_eq_nil_of_le (by rw [HL.out]; omega), List.drop_eq_nil_of_le (by rw [HL'.out]; omega)]
          rfl
        clear hq
        go_wp2
        go_ret
        rw [HE.out]
        exact ⟨rfl, _, rfl⟩
  · have HE : Hid (leqs l m = false) := leqs_len (by omega)
    have e1 : ((n : Int) == n') = false := by simp; omega
    clear h h' hl hl'
    go_enter Try.func35, Try.ntmps35
    go_wp2
    go_ret
    rw [HE.out]
    exact ⟨rfl, 0, rfl⟩

set_option maxRecDepth 100000 in
set_option maxHeartbeats 1000000 in
theorem equal1_any (a a' : Option Addr) (n c n' c' : Nat) (l m : List (List Int)) (w : World) (h : RdM 1 w a n c l) (h' : RdM 1 w a' n' c' m) :
    Calls Try.prog 36 #[.slice a n c, .slice a' n' c'] w fun e w' => e = .returned (.bool (leqs l m)) ∧ ∃ q, w' = w.drewN q := by
  have hl := h.len
  have hl' := h'.len
  have hn63 := h.small.1
  have hn63' := h'.small.1
  by_cases hnn : n = n'
  · subst hnn
    have H := hid h
    have H' := hid h'
    have HL := hid hl
    have HL' := hid hl'
    clear h h' hl hl'
    go_enter Try.func36, Try.ntmps36
    go_wp2
    go_loopw [13] (fun i wr => ∃ j : Nat, i = .int .i64 j ∧ j ≤ n ∧ leqs (l.drop j) (m.drop j) = leqs l m ∧ ∃ q, wr = w.drewN q) (fun i _ => n - (numOf i).toNat)
    case atStart => exact ⟨0, rfl, by omega, rfl, 0, rfl⟩
    case round =>
      obtain ⟨j, rfl, hj, hq, q, rfl⟩ := hrel
      by_cases hgo : j < n
      · have e1 : decide ((j : Int) < n) = true := decide_eq_true (by omega)
        have e2 : (j : Int) < n := by omega
        obtain ⟨blx, offx, x0, rfl, _, hx, c0⟩ := H.out.el1 hgo
        obtain ⟨bly, offy, y0, rfl, _, hy, d0⟩ := H'.out.el1 hgo
        have HD : Hid (leqs l m = (leq [x0] [y0] && leqs (l.drop (j + 1)) (m.drop (j + 1)))) := by
          rw [Hid, ← hq, drop_at' hx, drop_at' hy, leqs_cons]
        clear hx hy hq
        have hn0 : (x0 != y0) = !leq [x0] [y0] := by rw [leq_one]; rfl
        cases hs : leq [x0] [y0]
        · rw [hs] at hn0
          have HE : Hid (leqs l m = false) := by rw [Hid, HD.out, hs]; rfl
          clear HD
          go_wp2
          go_quiet (fail)
          go_wp2
          go_ret
          rw [HE.out, World.drewN_drewN]
          exact ⟨rfl, _, rfl⟩
        · rw [hs] at hn0
          have HE : Hid (leqs (l.drop (j + 1)) (m.drop (j + 1)) = leqs l m) := by rw [Hid, HD.out, hs]; rfl
          clear HD
          go_wp2
          go_quiet (fail)
          go_wp2
          go_roundw
          case rel => exact ⟨j + 1, by go_num, by omega, HE.out, _, rfl⟩
          case measure => simp [numOf]; omega
      · have e1 : decide ((j : Int) < n) = false := decide_eq_false (by omega)
        have HE : Hid (leqs l m = true) := by
          rw [Hid, ← hq, List.drop_eq_nil_of_le (by rw [HL.out]; omega), List.drop_eq_nil_of_le (by rw [HL'.out]; omega)]
          rfl
        clear hq
        go_wp2
        go_ret
        rw [HE.out]
        exact ⟨rfl, _, rfl⟩
  · have HE : Hid (leqs l m = false) := leqs_len (by omega)
    have e1 : ((n : Int) == n') = false := by simp; omega
    clear h h' hl hl'
    go_enter Try.func36, Try.ntmps36
    go_wp2
    go_ret
    rw [HE.out]
    exact ⟨rfl, 0, rfl⟩

set_option maxRecDepth 100000 in
set_option maxHeartbeats 1000000 in
theorem equal3_any (a a' : Option Addr) (n c n' c' : Nat) (l m : List (List Int)) (w : World) (h : RdM 3 w a n c l) (h' : RdM 3 w a' n' c' m) :
    Calls Try.prog 37 #[.slice a n c, .slice a' n' c'] w fun e w' => e = .returned (.bool (leqs l m)) ∧ ∃ q, w' = w.drewN q := by
  have hl := h.len
  have hl' := h'.len
  have hn63 := h.small.1
  have hn63' := h'.small.1
  have hg := neqM3_guard
  have hne := neqM3
  by_cases hnn : n = n'
  · subst hnn
    have H := hid h
    have H' := hid h'
    have HL := hid hl
    have HL' := hid hl'
    clear h h' hl hl'
    go_enter Try.func37, Try.ntmps37
    go_wp2
    go_loopw [13] (fun i wr => ∃ j : Nat, i = .int .i64 j ∧ j ≤ n ∧ leqs (l.drop j) (m.drop j) = leqs l m ∧ ∃ q, wr = w.drewN q) (fun i _ => n - (numOf i).toNat)
    case atStart => exact ⟨0, rfl, by omega, rfl, 0, rfl⟩
    case round =>
      obtain ⟨j, rfl, hj, hq, q, rfl⟩ := hrel
      by_cases hgo : j < n
      · have e1 : decide ((j : Int) < n) = true := decide_eq_true (by omega)
        have e2 : (j : Int) < n := by omega
        obtain ⟨blx, offx, x0, x1, x2, rfl, _, hx, c0, c1, c2⟩ := H.out.el3 hgo
        obtain ⟨bly, offy, y0, y1, y2, rfl, _, hy, d0, d1, d2⟩ := H'.out.el3 hgo
        have HD : Hid (leqs l m = (leq [x0, x1, x2] [y0, y1, y2] && leqs (l.drop (j + 1)) (m.drop (j + 1)))) := by
          rw [Hid, ← hq, drop_at' hx, drop_at' hy, leqs_cons]
        clear hx hy hq
        have hn0 := hne x0 x1 x2 y0 y1 y2
        cases hs : leq [x0, x1, x2] [y0, y1, y2]
        · rw [hs] at hn0
          have HE : Hid (leqs l m = false) := by rw [Hid, HD.out, hs]; rfl
          clear HD
          go_wp2
          go_quiet (fail)
          go_wp2
          go_ret
          rw [HE.out, World.drewN_drewN]
          exact ⟨rfl, _, rfl⟩
        · rw [hs] at hn0
          have HE : Hid (leqs (l.drop (j + 1)) (m.drop (j + 1)) = leqs l m) := by rw [Hid, HD.out, hs]; rfl
          clear HD
          go_wp2
          go_quiet (fail)
          go_wp2
          go_roundw
          case rel => exact ⟨j + 1, by go_num, by omega, HE.out, _, rfl⟩
          case measure => simp [numOf]; omega
      · have e1 : decide ((j : Int) < n) = false := decide_eq_false (by omega)
        have HE : Hid (leqs l m = true) := by
          rw [Hid, ← hq, List.drop_eq_nil_of_le (by rw [HL.out]; omega), List.drop_eq_nil_of_le (by rw [HL'.out]; omega)]
          rfl
        clear hq
        go_wp2
        go_ret
        rw [HE.out]
        exact ⟨rfl, _, rfl⟩
  · have HE : Hid (leqs l m = false) := leqs_len (by omega)
    have e1 : ((n : Int) == n') = false := by simp; omega
    clear h h' hl hl'
    go_enter Try.func37, Try.ntmps37
    go_wp2
    go_ret
    rw [HE.out]
    exact ⟨rfl, 0, rfl⟩

set_option maxRecDepth 100000 in
set_option maxHeartbeats 1000000 in
theorem sameints_any (a a' : Option Addr) (n c n' c' : Nat) (l m : List (List Int)) (w : World) (h : RdM 1 w a n c l) (h' : RdM 1 w a' n' c' m) :
    Calls Try.prog 24 #[.slice a n c, .slice a' n' c'] w fun e w' => e = .returned (.bool (leqs l m)) ∧ ∃ q, w' = w.drewN q := by
  have hl := h.len
  have hl' := h'.len
  have hn63 := h.small.1
  have hn63' := h'.small.1
  by_cases hnn : n = n'
  · subst hnn
    have H := hid h
    have H' := hid h'
    have HL := hid hl
    have HL' := hid hl'
    clear h h' hl hl'
    go_enter Try.func24, Try.ntmps24
    go_wp2
    go_loopw [5] (fun i wr => ∃ j : Nat, i = .int .i64 j ∧ j ≤ n ∧ leqs (l.drop j) (m.drop j) = leqs l m ∧ ∃ q, wr = w.drewN q) (fun i _ => n - (numOf i).toNat)
    case atStart => exact ⟨0, rfl, by omega, rfl, 0, rfl⟩
    case round =>
      obtain ⟨j, rfl, hj, hq, q, rfl⟩ := hrel
      by_cases hgo : j < n
      · have e1 : decide ((j : Int) < n) = true := decide_eq_true (by omega)
        have e2 : (j : Int) < n := by omega
        obtain ⟨blx, offx, x0, rfl, _, hx, c0⟩ := H.out.el1 hgo
        obtain ⟨bly, offy, y0, rfl, _, hy, d0⟩ := H'.out.el1 hgo
        have HD : Hid (leqs l m = (leq [x0] [y0] && leqs (l.drop (j + 1)) (m.drop (j + 1)))) := by
          rw [Hid, ← hq, drop_at' hx, drop_at' hy, leqs_cons]
        clear hx hy hq
        have hn0 : (x0 != y0) = !leq [x0] [y0] := by rw [leq_one]; rfl
        cases hs : leq [x0] [y0]
        · rw [hs] at hn0
          have HE : Hid (leqs l m = false) := by rw [Hid, HD.out, hs]; rfl
          clear HD
          go_wp2
          go_quiet (fail)
          go_wp2
          go_ret
          rw [HE.out, World.drewN_drewN]
          exact ⟨rfl, _, rfl⟩
        · rw [hs] at hn0
          have HE : Hid (leqs (l.drop (j + 1)) (m.drop (j + 1)) = leqs l m) := by rw [Hid, HD.out, hs]; rfl
          clear HD
          go_wp2
          go_quiet (fail)
          go_wp2
          go_roundw
          case rel => exact ⟨j + 1, by go_num, by omega, HE.out, _, rfl⟩
          case measure => simp [numOf]; omega
      · have e1 : decide ((j : Int) < n) = false := decide_eq_false (by omega)
        have HE : Hid (leqs l m = true) := by
          rw [Hid, ← hq, List.drop_eq_nil_of_le (by rw [HL.out]; omega), List.drop_eq_nil_of_le (by rw [HL'.out]; omega)]
          rfl
        clear hq
        go_wp2
        go_ret
        rw [HE.out]
        exact ⟨rfl, _, rfl⟩
  · have HE : Hid (leqs l m = false) := leqs_len (by omega)
    have e1 : ((n : Int) == n') = false := by simp; omega
    clear h h' hl hl'
    go_enter Try.func24, Try.ntmps24
    go_wp2
    go_ret
    rw [HE.out]
    exact ⟨rfl, 0, rfl⟩

set_option maxRecDepth 100000 in
set_option maxHeartbeats 1000000 in
theorem samechildren_any (a a' : Option Addr) (n c n' c' : Nat) (l m : List (List Int)) (w : World) (h : RdM 3 w a n c l) (h' : RdM 3 w a' n' c' m) :
    Calls Try.prog 20 #[.slice a n c, .slice a' n' c'] w fun e w' => e = .returned (.bool (leqs l m)) ∧ ∃ q, w' = w.drewN q := by
  have hl := h.len
  have hl' := h'.len
  have hn63 := h.small.1
  have hn63' := h'.small.1
  have hg := neqM3_guard
  have hne := neqM3
  by_cases hnn : n = n'
  · subst hnn
    have H := hid h
    have H' := hid h'
    have HL := hid hl
    have HL' := hid hl'
    clear h h' hl hl'
    go_enter Try.func20, Try.ntmps20
    go_wp2
    go_loopw [5] (fun i wr => ∃ j : Nat, i = .int .i64 j ∧ j ≤ n ∧ leqs (l.drop j) (m.drop j) = leqs l m ∧ ∃ q, wr = w.drewN q) (fun i _ => n - (numOf i).toNat)
    case atStart => exact ⟨0, rfl, by omega, rfl, 0, rfl⟩
    case round =>
      obtain ⟨j, rfl, hj, hq, q, rfl⟩ := hrel
      by_cases hgo : j < n
      · have e1 : decide ((j : Int) < n) = true := decide_eq_true (by omega)
        have e2 : (j : Int) < n := by omega
        obtain ⟨blx, offx, x0, x1, x2, rfl, _, hx, c0, c1, c2⟩ := H.out.el3 hgo
        obtain ⟨bly, offy, y0, y1, y2, rfl, _, hy, d0, d1, d2⟩ := H'.out.el3 hgo
        have HD : Hid (leqs l m = (leq [x0, x1, x2] [y0, y1, y2] && leqs (l.drop (j + 1)) (m.drop (j + 1)))) := by
          rw [Hid, ← hq, drop_at' hx, drop_at' hy, leqs_cons]
        clear hx hy hq
        have hn0 := hne x0 x1 x2 y0 y1 y2
        cases hs : leq [x0, x1, x2] [y0, y1, y2]
        · rw [hs] at hn0
          have HE : Hid (leqs l m = false) := by rw [Hid, HD.out, hs]; rfl
          clear HD
          go_wp2
          go_quiet (fail)
          go_wp2
          go_ret
          rw [HE.out, World.drewN_drewN]
          exact ⟨rfl, _, rfl⟩
        · rw [hs] at hn0
          have HE : Hid (leqs (l.drop (j + 1)) (m.drop (j + 1)) = leqs l m) := by rw [Hid, HD.out, hs]; rfl
          clear HD
          go_wp2
          go_quiet (fail)
          go_wp2
          go_roundw
          case rel => exact ⟨j + 1, by go_num, by omega, HE.out, _, rfl⟩
          case measure => simp [numOf]; omega
      · have e1 : decide ((j : Int) < n) = false := decide_eq_false (by omega)
        have HE : Hid (leqs l m = true) := by
          rw [Hid, ← hq, List.drop_eq_nil_of_le (by rw [HL.out]; omega), List.drop_eq_nil_of_le (by rw [HL'.out]; omega)]
          rfl
        clear hq
        go_wp2
        go_ret
        rw [HE.out]
        exact ⟨rfl, _, rfl⟩
  · have HE : Hid (leqs l m = false) := leqs_len (by omega)
    have e1 : ((n : Int) == n') = false := by simp; omega
    clear h h' hl hl'
    go_enter Try.func20, Try.ntmps20
    go_wp2
    go_ret
    rw [HE.out]
    exact ⟨rfl, 0, rfl⟩

theorem infoM4 : (Try.prog.info? 48).map (fun i => (i.zero, i.size, i.bytes)) = some (some (.agg #[.int .i64 0, .int .i64 0, .int .i64 0, .int .i64 0]), 4, 32) := by kernel_rfl
theorem infoM1 : (Try.prog.info? 3).map (fun i => (i.zero, i.size, i.bytes)) = some (some (.int .i64 0), 1, 8) := by kernel_rfl
theorem infoM3 : (Try.prog.info? 28).map (fun i => (i.zero, i.size, i.bytes)) = some (some (.agg #[.int .i64 0, .int .i64 0, .int .i64 0]), 3, 24) := by kernel_rfl

set_option maxRecDepth 100000 in
theorem lrects_any (s : Option Addr) (n c : Nat) (l : List (List Int)) (w : World) (hr : RdM 4 w s n c l) (hn : n ≤ 1000000) :
    Calls Try.prog 26 #[.slice s n c] w fun e w' => ∃ v, e = .returned v ∧ OwM 4 48 w w' v l := by
  obtain ⟨i0, hi, hz0, hz1, hz2⟩ := infoMP infoM4
  have HS := hid (hr.src (P := Try.prog) (t := 22) (e := 48) Try.underlying22)
  have HO := hid (World.ownsRow_nil w w.heap.size 48 4)
  have HL := hid hr.len
  have HK := hid hr.size
  clear hr
  go_enter Try.func26, Try.ntmps26
  go_wp2_with (at_builtin; refine wpList_append_own_src _ rfl (.const (.slice none 0 0)) (.tmp 3) 22 22 rfl w.heap.size 48 i0 (.agg #[.int .i64 0, .int .i64 0, .int .i64 0, .int .i64 0]) 4 32 Try.underlying22 hi hz0 hz1 hz2 rfl _ _ _ rfl HO.out _ _ _ rfl HS.out (by simp only [maxLen]; omega) (fitsM (by omega) (by decide)) (Nat.le_refl _) ?_; intro v3 w3 o3 g3; have HO3 := hid o3; have HG3 := hid g3; clear o3 g3)
  go_ret
  have h3 := HO3.out
  rw [Nat.zero_add, List.nil_append] at h3
  exact ⟨_, rfl, by rw [HL.out]; exact h3, (kp_of_grown HG3.out).below (Nat.le_refl _) (fun k hk => by cases hk), HK.out⟩

set_option maxRecDepth 100000 in
theorem lints_any (s : Option Addr) (n c : Nat) (l : List (List Int)) (w : World) (hr : RdM 1 w s n c l) (hn : n ≤ 1000000) :
    Calls Try.prog 27 #[.slice s n c] w fun e w' => ∃ v, e = .returned v ∧ OwM 1 3 w w' v l := by
  obtain ⟨i0, hi, hz0, hz1, hz2⟩ := infoMP infoM1
  have HS := hid (hr.src (P := Try.prog) (t := 23) (e := 3) Try.underlying23)
  have HO := hid (World.ownsRow_nil w w.heap.size 3 1)
  have HL := hid hr.len
  have HK := hid hr.size
  clear hr
  go_enter Try.func27, Try.ntmps27
  go_wp2_with (at_builtin; refine wpList_append_own_src _ rfl (.const (.slice none 0 0)) (.tmp 3) 23 23 rfl w.heap.size 3 i0 (.int .i64 0) 1 8 Try.underlying23 hi hz0 hz1 hz2 rfl _ _ _ rfl HO.out _ _ _ rfl HS.out (by simp only [maxLen]; omega) (fitsM (by omega) (by decide)) (Nat.le_refl _) ?_; intro v3 w3 o3 g3; have HO3 := hid o3; have HG3 := hid g3; clear o3 g3)
  go_ret
  have h3 := HO3.out
  rw [Nat.zero_add, List.nil_append] at h3
  exact ⟨_, rfl, by rw [HL.out]; exact h3, (kp_of_grown HG3.out).below (Nat.le_refl _) (fun k hk => by cases hk), HK.out⟩

set_option maxRecDepth 100000 in
theorem rrects_any (s : Option Addr) (n c : Nat) (l : List (List Int)) (w : World) (hr : RdM 4 w s n c l) (hn : n ≤ 1000000) :
    Calls Try.prog 32 #[.slice s n c] w fun e w' => ∃ v, e = .returned v ∧ OwM 4 48 w w' v l := by
  obtain ⟨i0, hi, hz0, hz1, hz2⟩ := infoMP infoM4
  have HS := hid (hr.src (P := Try.prog) (t := 22) (e := 48) Try.underlying22)
  have HO := hid (World.ownsRow_nil w w.heap.size 48 4)
  have HL := hid hr.len
  have HK := hid hr.size
  clear hr
  go_enter Try.func32, Try.ntmps32
  go_wp2_with (at_builtin; refine wpList_append_own_src _ rfl (.const (.slice none 0 0)) (.tmp 3) 22 22 rfl w.heap.size 48 i0 (.agg #[.int .i64 0, .int .i64 0, .int .i64 0, .int .i64 0]) 4 32 Try.underlying22 hi hz0 hz1 hz2 rfl _ _ _ rfl HO.out _ _ _ rfl HS.out (by simp only [maxLen]; omega) (fitsM (by omega) (by decide)) (Nat.le_refl _) ?_; intro v3 w3 o3 g3; have HO3 := hid o3; have HG3 := hid g3; clear o3 g3)
  go_ret
  have h3 := HO3.out
  rw [Nat.zero_add, List.nil_append] at h3
  exact ⟨_, rfl, by rw [HL.out]; exact h3, (kp_of_grown HG3.out).below (Nat.le_refl _) (fun k hk => by cases hk), HK.out⟩

set_option maxRecDepth 100000 in
theorem rints_any (s : Option Addr) (n c : Nat) (l : List (List Int)) (w : World) (hr : RdM 1 w s n c l) (hn : n ≤ 1000000) :
    Calls Try.prog 33 #[.slice s n c] w fun e w' => ∃ v, e = .returned v ∧ OwM 1 3 w w' v l := by
  obtain ⟨i0, hi, hz0, hz1, hz2⟩ := infoMP infoM1
  have HS := hid (hr.src (P := Try.prog) (t := 23) (e := 3) Try.underlying23)
  have HO := hid (World.ownsRow_nil w w.heap.size 3 1)
  have HL := hid hr.len
  have HK := hid hr.size
  clear hr
  go_enter Try.func33, Try.ntmps33
  go_wp2_with (at_builtin; refine wpList_append_own_src _ rfl (.const (.slice none 0 0)) (.tmp 3) 23 23 rfl w.heap.size 3 i0 (.int .i64 0) 1 8 Try.underlying23 hi hz0 hz1 hz2 rfl _ _ _ rfl HO.out _ _ _ rfl HS.out (by simp only [maxLen]; omega) (fitsM (by omega) (by decide)) (Nat.le_refl _) ?_; intro v3 w3 o3 g3; have HO3 := hid o3; have HG3 := hid g3; clear o3 g3)
  go_ret
  have h3 := HO3.out
  rw [Nat.zero_add, List.nil_append] at h3
  exact ⟨_, rfl, by rw [HL.out]; exact h3, (kp_of_grown HG3.out).below (Nat.le_refl _) (fun k hk => by cases hk), HK.out⟩

set_option maxRecDepth 100000 in
set_option maxHeartbeats 1000000 in
theorem joined4_any (B n c : Nat) (L : List (List (List Int))) (w : World) (h : RdL 4 w B L) (hn : L.length = n) (hL : n ≤ 1000) (hs : L.flatten.length ≤ 1000000) :
    Calls Try.prog 29 #[.slice (some ⟨B, 0, none⟩) n c] w fun e w' => ∃ v, e = .returned v ∧ OwM 4 48 w w' v L.flatten := by
  obtain ⟨i0, hi, hz0, hz1, hz2⟩ := infoMP infoM4
  have H := hid h
  have HN := hid hn
  have HS := hid hs
  clear h hn hs
  go_enter Try.func29, Try.ntmps29
  go_wp2
  go_loopw [3, 8] (fun v i wr => ∃ j : Nat, i = .int .i64 j ∧ j ≤ n ∧ OwM 4 48 w wr v (L.take j).flatten) (fun _ i _ => n - (numOf i).toNat)
  case atStart => exact ⟨0, rfl, by omega, OwM.nil _ _ _⟩
  case round =>
    obtain ⟨j, rfl, hj, hO⟩ := hrel
    have HO := hid hO
    obtain ⟨a0, c0, rfl, -, -⟩ := hO.rd
    clear hO
    by_cases hgo : j < n
    · have e1 : decide ((j : Int) < n) = true := decide_eq_true (by omega)
      have e2 : (j : Int) < n := by omega
      obtain ⟨l, hl⟩ : ∃ l, L[j]? = some l := ⟨_, List.getElem?_eq_getElem (by rw [HN.out]; exact hgo)⟩
      obtain ⟨a, n1, c1, hc, hr, _⟩ := (H.out.on HO.out.bel).each j l hl
      have HSR := hid (hr.src (P := Try.prog) (t := 22) (e := 48) Try.underlying22)
      have hsum : (L.take j).flatten.length + n1 ≤ 1000000 := by
        have h1 := flatten_take_le L (j + 1)
        rw [flatten_take_snoc hl, List.length_append, hr.len] at h1
        have := HS.out
        omega
      have HG : Hid (∀ v' u', u'.ownsRow w.heap.size 48 4 v' ((L.take j).flatten.length + n1) (mcs (L.take j).flatten ++ mcs l) → wr.grownBy u' (Value.ownBlock (.slice a0 (L.take j).flatten.length c0)) → OwM 4 48 w u' v' (L.take (j + 1)).flatten) := fun v' u' o g => by
        rw [flatten_take_snoc hl]
        exact HO.out.grown hr.size (by rw [hr.len]; exact o) g
      have HZ := hid HO.out.own
      have hsz := HO.out.bel.size
      clear hr hl
      go_wp2_with (at_builtin; refine wpList_append_own_src _ rfl (.tmp 12) (.tmp 13) 22 22 rfl w.heap.size 48 i0 (.agg #[.int .i64 0, .int .i64 0, .int .i64 0, .int .i64 0]) 4 32 Try.underlying22 hi hz0 hz1 hz2 rfl _ _ _ rfl HZ.out _ _ _ rfl HSR.out (by simp only [maxLen]; omega) (fitsM (by omega) (by decide)) hsz ?_; intro v3 w3 o3 g3; have HO3 := hid (HG.out _ _ o3 g3); clear o3 g3)
      go_roundw
      case rel => exact ⟨j + 1, by go_num, by omega, HO3.out⟩
      case measure => simp [numOf]; omega
    · have e1 : decide ((j : Int) < n) = false := decide_eq_false (by omega)
      obtain rfl : j = n := by omega
      have HN2 : Hid ((L.take j).flatten = L.flatten) := by rw [Hid, List.take_of_length_le (by rw [HN.out]; exact Nat.le_refl _)]
      go_wp2
      go_ret
      exact ⟨_, rfl, by rw [← HN2.out]; exact HO.out⟩

set_option maxRecDepth 100000 in
set_option maxHeartbeats 1000000 in
theorem joined1_any (B n c : Nat) (L : List (List (List Int))) (w : World) (h : RdL 1 w B L) (hn : L.length = n) (hL : n ≤ 1000) (hs : L.flatten.length ≤ 1000000) :
    Calls Try.prog 30 #[.slice (some ⟨B, 0, none⟩) n c] w fun e w' => ∃ v, e = .returned v ∧ OwM 1 3 w w' v L.flatten := by
  obtain ⟨i0, hi, hz0, hz1, hz2⟩ := infoMP infoM1
  have H := hid h
  have HN := hid hn
  have HS := hid hs
  clear h hn hs
  go_enter Try.func30, Try.ntmps30
  go_wp2
  go_loopw [3, 8] (fun v i wr => ∃ j : Nat, i = .int .i64 j ∧ j ≤ n ∧ OwM 1 3 w wr v (L.take j).flatten) (fun _ i _ => n - (numOf i).toNat)
  case atStart => exact ⟨0, rfl, by omega, OwM.nil _ _ _⟩
  case round =>
    obtain ⟨j, rfl, hj, hO⟩ := hrel
    have HO := hid hO
    obtain ⟨a0, c0, rfl, -, -⟩ := hO.rd
    clear hO
    by_cases hgo : j < n
    · have e1 : decide ((j : Int) < n) = true := decide_eq_true (by omega)
      have e2 : (j : Int) < n := by omega
      obtain ⟨l, hl⟩ : ∃ l, L[j]? = some l := ⟨_, List.getElem?_eq_getElem (by rw [HN.out]; exact hgo)⟩
      obtain ⟨a, n1, c1, hc, hr, _⟩ := (H.out.on HO.out.bel).each j l hl
      have HSR := hid (hr.src (P := Try.prog) (t := 23) (e := 3) Try.underlying23)
      have hsum : (L.take j).flatten.length + n1 ≤ 1000000 := by
        have h1 := flatten_take_le L (j + 1)
        rw [flatten_take_snoc hl, List.length_append, hr.len] at h1
        have := HS.out
        omega
      have HG : Hid (∀ v' u', u'.ownsRow w.heap.size 3 1 v' ((L.take j).flatten.length + n1) (mcs (L.take j).flatten ++ mcs l) → wr.grownBy u' (Value.ownBlock (.slice a0 (L.take j).flatten.length c0)) → OwM 1 3 w u' v' (L.take (j + 1)).flatten) := fun v' u' o g => by
        rw [flatten_take_snoc hl]
        exact HO.out.grown hr.size (by rw [hr.len]; exact o) g
      have HZ := hid HO.out.own
      have hsz := HO.out.bel.size
      clear hr hl
      go_wp2_with (at_builtin; refine wpList_append_own_src _ rfl (.tmp 12) (.tmp 13) 23 23 rfl w.heap.size 3 i0 (.int .i64 0) 1 8 Try.underlying23 hi hz0 hz1 hz2 rfl _ _ _ rfl HZ.out _ _ _ rfl HSR.out (by simp only [maxLen]; omega) (fitsM (by omega) (by decide)) hsz ?_; intro v3 w3 o3 g3; have HO3 := hid (HG.out _ _ o3 g3); clear o3 g3)
      go_roundw
      case rel => exact ⟨j + 1, by go_num, by omega, HO3.out⟩
      case measure => simp [numOf]; omega
    · have e1 : decide ((j : Int) < n) = false := decide_eq_false (by omega)
      obtain rfl : j = n := by omega
      have HN2 : Hid ((L.take j).flatten = L.flatten) := by rw [Hid, List.take_of_length_le (by rw [HN.out]; exact Nat.le_refl _)]
      go_wp2
      go_ret
      exact ⟨_, rfl, by rw [← HN2.out]; exact HO.out⟩

set_option maxRecDepth 100000 in
set_option maxHeartbeats 1000000 in
theorem joined3_any (B n c : Nat) (L : List (List (List Int))) (w : World) (h : RdL 3 w B L) (hn : L.length = n) (hL : n ≤ 1000) (hs : L.flatten.length ≤ 1000000) :
    Calls Try.prog 40 #[.slice (some ⟨B, 0, none⟩) n c] w fun e w' => ∃ v, e = .returned v ∧ OwM 3 28 w w' v L.flatten := by
  obtain ⟨i0, hi, hz0, hz1, hz2⟩ := infoMP infoM3
  have H := hid h
  have HN := hid hn
  have HS := hid hs
  clear h hn hs
  go_enter Try.func40, Try.ntmps40
  go_wp2
  go_loopw [3, 8] (fun v i wr => ∃ j : Nat, i = .int .i64 j ∧ j ≤ n ∧ OwM 3 28 w wr v (L.take j).flatten) (fun _ i _ => n - (numOf i).toNat)
  case atStart => exact ⟨0, rfl, by omega, OwM.nil _ _ _⟩
  case round =>
    obtain ⟨j, rfl, hj, hO⟩ := hrel
    have HO := hid hO
    obtain ⟨a0, c0, rfl, -, -⟩ := hO.rd
    clear hO
    by_cases hgo : j < n
    · have e1 : decide ((j : Int) < n) = true := decide_eq_true (by omega)
      have e2 : (j : Int) < n := by omega
      obtain ⟨l, hl⟩ : ∃ l, L[j]? = some l := ⟨_, List.getElem?_eq_getElem (by rw [HN.out]; exact hgo)⟩
      obtain ⟨a, n1, c1, hc, hr, _⟩ := (H.out.on HO.out.bel).each j l hl
      have HSR := hid (hr.src (P := Try.prog) (t := 24) (e := 28) Try.underlying24)
      have hsum : (L.take j).flatten.length + n1 ≤ 1000000 := by
        have h1 := flatten_take_le L (j + 1)
        rw [flatten_take_snoc hl, List.length_append, hr.len] at h1
        have := HS.out
        omega
      have HG : Hid (∀ v' u', u'.ownsRow w.heap.size 28 3 v' ((L.take j).flatten.length + n1) (mcs (L.take j).flatten ++ mcs l) → wr.grownBy u' (Value.ownBlock (.slice a0 (L.take j).flatten.length c0)) → OwM 3 28 w u' v' (L.take (j + 1)).flatten) := fun v' u' o g => by
        rw [flatten_take_snoc hl]
        exact HO.out.grown hr.size (by rw [hr.len]; exact o) g
      have HZ := hid HO.out.own
      have hsz := HO.out.bel.size
      clear hr hl
      go_wp2_with (at_builtin; refine wpList_append_own_src _ rfl (.tmp 12) (.tmp 13) 24 24 rfl w.heap.size 28 i0 (.agg #[.int .i64 0, .int .i64 0, .int .i64 0]) 3 24 Try.underlying24 hi hz0 hz1 hz2 rfl _ _ _ rfl HZ.out _ _ _ rfl HSR.out (by simp only [maxLen]; omega) (fitsM (by omega) (by decide)) hsz ?_; intro v3 w3 o3 g3; have HO3 := hid (HG.out _ _ o3 g3); clear o3 g3)
      go_roundw
      case rel => exact ⟨j + 1, by go_num, by omega, HO3.out⟩
      case measure => simp [numOf]; omega
    · have e1 : decide ((j : Int) < n) = false := decide_eq_false (by omega)
      obtain rfl : j = n := by omega
      have HN2 : Hid ((L.take j).flatten = L.flatten) := by rw [Hid, List.take_of_length_le (by rw [HN.out]; exact Nat.le_refl _)]
      go_wp2
      go_ret
      exact ⟨_, rfl, by rw [← HN2.out]; exact HO.out⟩
end Go.Proofs.Ytcdflegfjannmaa
