/- Slices of rectangles, numbers and children: compared, copied, joined. Written by state/mk_stab.py. -/
import Derived.Test.YtlkodgmnhphfcaaStaA
import Derived.Test.YtlkodgmnhphfcaaChecked
import Derived.Laws.StructEq
import Derived.BigQuiet
namespace Go.Proofs.Ytlkodgmnhphfcaa
open Go Go.RowKit

theorem infoMP {P : Program} {e : TypeId} {z : Value} {n m : Nat} (h : (P.info? e).map (fun i => (i.zero, i.size, i.bytes)) = some (some z, n, m)) : ∃ i, P.info? e = some i ∧ i.zero = some z ∧ i.size = n ∧ i.bytes = m := by
  obtain ⟨i, hi, hz⟩ := Option.map_eq_some_iff.1 h
  simp only [Prod.mk.injEq] at hz
  exact ⟨i, hi, hz.1, hz.2.1, hz.2.2⟩
theorem fitsM {need b : Nat} (h : need ≤ 1000000000) (hb : b ≤ 32) : ∀ old, old < need → Builtin.nextslicecap need old * b ≤ 281474976710656 := fun old ho => by
  have h1 := nextslicecap_near ho
  have h2 : Builtin.nextslicecap need old * b ≤ Builtin.nextslicecap need old * 32 := Nat.mul_le_mul_left _ hb
  omega

/-- Whether two are the same. -/
def leq (x y : List Int) : Bool := decide (x = y)
def leqs (l m : List (List Int)) : Bool := decide (l = m)
theorem leqs_cons (x y : List Int) (l m : List (List Int)) : leqs (x :: l) (y :: m) = (leq x y && leqs l m) := by
  unfold leqs leq
  rw [Bool.eq_iff_iff]
  simp
theorem leqs_len {l m : List (List Int)} (h : l.length ≠ m.length) : leqs l m = false := by
  unfold leqs
  rw [decide_eq_false_iff_not]
  intro e
  exact h (by rw [e])
theorem leqs_same (l : List (List Int)) : leqs l l = true := decide_eq_true rfl
theorem leq_one (x y : Int) : leq [x] [y] = (x == y) := by
  unfold leq
  rw [Bool.eq_iff_iff]
  simp

/-- A row of slices: each cell of the block B bears one. -/
structure RdL (m : Nat) (w : World) (B : Nat) (L : List (List (List Int))) : Prop where
  each : ∀ (j : Nat) l, L[j]? = some l → ∃ a n c, w.cell? ⟨B, j, none⟩ = some (.slice a n c) ∧ RdM m w a n c l ∧ B < w.heap.size
theorem RdL.on {m : Nat} {w u : World} {B : Nat} {L : List (List (List Int))} (h : RdL m w B L) (hb : Below w.heap.size w u) : RdL m u B L :=
  ⟨fun j l hl => by
    obtain ⟨a, n, c, h1, h2, h3⟩ := h.each j l hl
    exact ⟨a, n, c, by rw [hb.cell h3]; exact h1, h2.on hb, Nat.lt_of_lt_of_le h3 hb.size⟩⟩
theorem flatten_take_snoc {L : List (List (List Int))} {j : Nat} {l : List (List Int)} (h : L[j]? = some l) : (L.take (j + 1)).flatten = (L.take j).flatten ++ l := by
  rw [List.take_add_one, h]
  simp
theorem flatten_take_le (L : List (List (List Int))) (j : Nat) : (L.take j).flatten.length ≤ L.flatten.length := by
  have : L.flatten = (L.take j).flatten ++ (L.drop j).flatten := by rw [← List.flatten_append, List.take_append_drop]
  rw [this, List.length_append]
  omega

theorem eqlM4_guard (x y : Operand) (xs ys : Array Value) (w : World) : (eqGuard .eql 36 x y (.agg xs) (.agg ys)).run Try.prog w = .ok () w := run_eqGuard_agg w .eql 36 x y xs ys (by kernel_rfl)
theorem neqM4_guard (x y : Operand) (xs ys : Array Value) (w : World) : (eqGuard .neq 36 x y (.agg xs) (.agg ys)).run Try.prog w = .ok () w := run_eqGuard_agg w .neq 36 x y xs ys (by kernel_rfl)
theorem equalM4 (x0 x1 x2 x3 y0 y1 y2 y3 : Int) (w : World) : (Op.equalIn 10000 36 (.agg #[.int .i64 x0, .int .i64 x1, .int .i64 x2, .int .i64 x3]) (.agg #[.int .i64 y0, .int .i64 y1, .int .i64 y2, .int .i64 y3])).run Try.prog w = .ok (leq [x0, x1, x2, x3] [y0, y1, y2, y3]) w := by
  have u3 := Try.underlying3
  have a3 := Try.isAgg3
  have z3 := Try.sizeOf3
  have hS : Try.prog.underlying 36 = some (.struct (Try.prog.fieldsOf 36)) := by kernel_rfl
  have hp : Try.prog.stoodInHeld 36 = false := by kernel_rfl
  rw [show (10000 : Nat) = 9999 + 1 from rfl, run_equalIn_agg w 9999 36 _ _ hS hp]
  simp only [Program.fieldsOf, Try.underlying36]
  go_simp
  unfold leq
  by_cases h0 : x0 = y0 <;> by_cases h1 : x1 = y1 <;> by_cases h2 : x2 = y2 <;> by_cases h3 : x3 = y3 <;> simp [h0, h1, h2, h3]
theorem eqlM4 (x0 x1 x2 x3 y0 y1 y2 y3 : Int) (w : World) : (binOp .eql 36 (.agg #[.int .i64 x0, .int .i64 x1, .int .i64 x2, .int .i64 x3]) (.agg #[.int .i64 y0, .int .i64 y1, .int .i64 y2, .int .i64 y3])).run Try.prog w = .ok (.bool (leq [x0, x1, x2, x3] [y0, y1, y2, y3])) w := by
  rw [run_eql_struct, equalM4]
  rfl
theorem neqM4 (x0 x1 x2 x3 y0 y1 y2 y3 : Int) (w : World) : (binOp .neq 36 (.agg #[.int .i64 x0, .int .i64 x1, .int .i64 x2, .int .i64 x3]) (.agg #[.int .i64 y0, .int .i64 y1, .int .i64 y2, .int .i64 y3])).run Try.prog w = .ok (.bool (!leq [x0, x1, x2, x3] [y0, y1, y2, y3])) w := by
  rw [run_neq_struct, equalM4]
  rfl



set_option maxRecDepth 100000 in
set_option maxHeartbeats 1000000 in
theorem equal1_any (a a' : Option Addr) (n c n' c' : Nat) (l m : List (List Int)) (w : World) (h : RdM 1 w a n c l) (h' : RdM 1 w a' n' c' m) :
    Calls Try.prog 67 #[.slice a n c, .slice a' n' c'] w fun e w' => e = .returned (.bool (leqs l m)) ∧ ∃ q, w' = w.drewN q := by
  have hl := h.len
  have hl' := h'.len
  have hn63 := h.small.1
  have hn63' := h'.small.1
  by_cases hnn : n = n'
  · subst hnn
    have H := hid h
    have H' := hid h'
    have HL := hid hl
    have HL' := hid hl'
    clear h h' hl hl'
    go_enter Try.func67, Try.ntmps67
    go_wp2
    go_loopw [13] (fun i wr => ∃ j : Nat, i = .int .i64 j ∧ j ≤ n ∧ leqs (l.drop j) (m.drop j) = leqs l m ∧ ∃ q, wr = w.drewN q) (fun i _ => n - (numOf i).toNat)
    case atStart => exact ⟨0, rfl, by omega, rfl, 0, rfl⟩
    case round =>
      obtain ⟨j, rfl, hj, hq, q, rfl⟩ := hrel
      by_cases hgo : j < n
      · have e1 : decide ((j : Int) < n) = true := decide_eq_true (by omega)
        have e2 : (j : Int) < n := by omega
        obtain ⟨blx, offx, x0, rfl, _, hx, c0⟩ := H.out.el1 hgo
        obtain ⟨bly, offy, y0, rfl, _, hy, d0⟩ := H'.out.el1 hgo
        have HD : Hid (leqs l m = (leq [x0] [y0] && leqs (l.drop (j + 1)) (m.drop (j + 1)))) := by
          rw [Hid, ← hq, drop_at' hx, drop_at' hy, leqs_cons]
        clear hx hy hq
        have hn0 : (x0 != y0) = !leq [x0] [y0] := by rw [leq_one]; rfl
        cases hs : leq [x0] [y0]
        · rw [hs] at hn0
          have HE : Hid (leqs l m = false) := by rw [Hid, HD.out, hs]; rfl
          clear HD
          go_wp2
          go_quiet (fail)
          go_wp2
          go_ret
          rw [HE.out, World.drewN_drewN]
          exact ⟨rfl, _, rfl⟩
        · rw [hs] at hn0
          have HE : Hid (leqs (l.drop (j + 1)) (m.drop (j + 1)) = leqs l m) := by rw [Hid, HD.out, hs]; rfl
          clear HD
          go_wp2
          go_quiet (fail)
          go_wp2
          go_roundw
          case rel => exact ⟨j + 1, by go_num, by omega, HE.out, _, rfl⟩
          case measure => simp [numOf]; omega
      · have e1 : decide ((j : Int) < n) = false := decide_eq_false (by omega)
        have HE : Hid (leqs l m = true) := by
          rw [Hid, ← hq, List.drop_eq_nil_of_le (by rw [HL.out]; omega), List.drop_eq_nil_of_le (by rw [HL'.out]; omega)]
          rfl
        clear hq
        go_wp2
        go_ret
        rw [HE.out]
        exact ⟨rfl, _, rfl⟩
  · have HE : Hid (leqs l m = false) := leqs_len (by omega)
    have e1 : ((n : Int) == n') = false := by simp; omega
    clear h h' hl hl'
    go_enter Try.func67, Try.ntmps67
    go_wp2
    go_ret
    rw [HE.out]
    exact ⟨rfl, 0, rfl⟩




set_option maxRecDepth 100000 in
set_option maxHeartbeats 1000000 in
theorem msamerects_any (a a' : Option Addr) (n c n' c' : Nat) (l m : List (List Int)) (w : World) (h : RdM 4 w a n c l) (h' : RdM 4 w a' n' c' m) :
    Calls Try.prog 8 #[.slice a n c, .slice a' n' c'] w fun e w' => e = .returned (.bool (leqs l m)) ∧ ∃ q, w' = w.drewN q := by
  have hl := h.len
  have hl' := h'.len
  have hn63 := h.small.1
  have hn63' := h'.small.1
  have hg := neqM4_guard
  have hne := neqM4
  by_cases hnn : n = n'
  · subst hnn
    have H := hid h
    have H' := hid h'
    have HL := hid hl
    have HL' := hid hl'
    clear h h' hl hl'
    go_enter Try.func8, Try.ntmps8
    go_wp2
    go_loopw [5] (fun i wr => ∃ j : Nat, i = .int .i64 j ∧ j ≤ n ∧ leqs (l.drop j) (m.drop j) = leqs l m ∧ ∃ q, wr = w.drewN q) (fun i _ => n - (numOf i).toNat)
    case atStart => exact ⟨0, rfl, by omega, rfl, 0, rfl⟩
    case round =>
      obtain ⟨j, rfl, hj, hq, q, rfl⟩ := hrel
      by_cases hgo : j < n
      · have e1 : decide ((j : Int) < n) = true := decide_eq_true (by omega)
        have e2 : (j : Int) < n := by omega
        obtain ⟨blx, offx, x0, x1, x2, x3, rfl, _, hx, c0, c1, c2, c3⟩ := H.out.el4 hgo
        obtain ⟨bly, offy, y0, y1, y2, y3, rfl, _, hy, d0, d1, d2, d3⟩ := H'.out.el4 hgo
        have HD : Hid (leqs l m = (leq [x0, x1, x2, x3] [y0, y1, y2, y3] && leqs (l.drop (j + 1)) (m.drop (j + 1)))) := by
          rw [Hid, ← hq, drop_at' hx, drop_at' hy, leqs_cons]
        clear hx hy hq
        have hn0 := hne x0 x1 x2 x3 y0 y1 y2 y3
        cases hs : leq [x0, x1, x2, x3] [y0, y1, y2, y3]
        · rw [hs] at hn0
          have HE : Hid (leqs l m = false) := by rw [Hid, HD.out, hs]; rfl
          clear HD
          go_wp2
          go_quiet (fail)
          go_wp2
          go_ret
          rw [HE.out, World.drewN_drewN]
          exact ⟨rfl, _, rfl⟩
        · rw [hs] at hn0
          have HE : Hid (leqs (l.drop (j + 1)) (m.drop (j + 1)) = leqs l m) := by rw [Hid, HD.out, hs]; rfl
          clear HD
          go_wp2
          go_quiet (fail)
          go_wp2
          go_roundw
          case rel => exact ⟨j + 1, by go_num, by omega, HE.out, _, rfl⟩
          case measure => simp [numOf]; omega
      · have e1 : decide ((j : Int) < n) = false := decide_eq_false (by omega)
        have HE : Hid (leqs l m = true) := by
          rw [Hid, ← hq, List.drop_eq_nil_of_le (by rw [HL.out]; omega), List.drop_eq_nil_of_le (by rw [HL'.out]; omega)]
          rfl
        clear hq
        go_wp2
        go_ret
        rw [HE.out]
        exact ⟨rfl, _, rfl⟩
  · have HE : Hid (leqs l m = false) := leqs_len (by omega)
    have e1 : ((n : Int) == n') = false := by simp; omega
    clear h h' hl hl'
    go_enter Try.func8, Try.ntmps8
    go_wp2
    go_ret
    rw [HE.out]
    exact ⟨rfl, 0, rfl⟩
theorem infoM4 : (Try.prog.info? 36).map (fun i => (i.zero, i.size, i.bytes)) = some (some (.agg #[.int .i64 0, .int .i64 0, .int .i64 0, .int .i64 0]), 4, 32) := by kernel_rfl
theorem infoM1 : (Try.prog.info? 3).map (fun i => (i.zero, i.size, i.bytes)) = some (some (.int .i64 0), 1, 8) := by kernel_rfl

set_option maxRecDepth 100000 in
theorem lrects_any (s : Option Addr) (n c : Nat) (l : List (List Int)) (w : World) (hr : RdM 4 w s n c l) (hn : n ≤ 1000000) :
    Calls Try.prog 13 #[.slice s n c] w fun e w' => ∃ v, e = .returned v ∧ OwM 4 36 w w' v l := by
  obtain ⟨i0, hi, hz0, hz1, hz2⟩ := infoMP infoM4
  have HS := hid (hr.src (P := Try.prog) (t := 30) (e := 36) Try.underlying30)
  have HO := hid (World.ownsRow_nil w w.heap.size 36 4)
  have HL := hid hr.len
  have HK := hid hr.size
  clear hr
  go_enter Try.func13, Try.ntmps13
  go_wp2_with (at_builtin; refine wpList_append_own_src _ rfl (.const (.slice none 0 0)) (.tmp 3) 30 30 rfl w.heap.size 36 i0 (.agg #[.int .i64 0, .int .i64 0, .int .i64 0, .int .i64 0]) 4 32 Try.underlying30 hi hz0 hz1 hz2 rfl _ _ _ rfl HO.out _ _ _ rfl HS.out (by simp only [maxLen]; omega) (fitsM (by omega) (by decide)) (Nat.le_refl _) ?_; intro v3 w3 o3 g3; have HO3 := hid o3; have HG3 := hid g3; clear o3 g3)
  go_ret
  have h3 := HO3.out
  rw [Nat.zero_add, List.nil_append] at h3
  exact ⟨_, rfl, by rw [HL.out]; exact h3, (kp_of_grown HG3.out).below (Nat.le_refl _) (fun k hk => by cases hk), HK.out⟩






end Go.Proofs.Ytlkodgmnhphfcaa
