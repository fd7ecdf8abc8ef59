/- Slices of rectangles, numbers and children: compared, copied, joined. Written by state/mk_stab.py. -/
import Derived.Test.YtegmolmjoiklpaaStaA
import Derived.Test.YtegmolmjoiklpaaChecked
import Derived.Laws.StructEq
import Derived.BigQuiet
namespace Go.Proofs.Ytegmolmjoiklpaa
open Go Go.RowKit

theorem infoMP {P : Program} {e : TypeId} {z : Value} {n m : Nat} (h : (P.info? e).map (fun i => (i.zero, i.size, i.bytes)) = some (some z, n, m)) : ∃ i, P.info? e = some i ∧ i.zero = some z ∧ i.size = n ∧ i.bytes = m := by
  obtain ⟨i, hi, hz⟩ := Option.map_eq_some_iff.1 h
  simp only [Prod.mk.injEq] at hz
  exact ⟨i, hi, hz.1, hz.2.1, hz.2.2⟩
theorem fitsM {need b : Nat} (h : need ≤ 1000000000) (hb : b ≤ 32) : ∀ old, old < need → Builtin.nextslicecap need old * b ≤ 281474976710656 := fun old ho => by
  have h1 := nextslicecap_near ho
  have h2 : Builtin.nextslicecap need old * b ≤ Builtin.nextslicecap need old * 32 := Nat.mul_le_mul_left _ hb
  omega

/-- Whether two are the same. -/
def leq (x y : List Int) : Bool := decide (x = y)
def leqs (l m : List (List Int)) : Bool := decide (l = m)
theorem leqs_cons (x y : List Int) (l m : List (List Int)) : leqs (x :: l) (y :: m) = (leq x y && leqs l m) := by
  unfold leqs leq
  rw [Bool.eq_iff_iff]
  simp
theorem leqs_len {l m : List (List Int)} (h : l.length ≠ m.length) : leqs l m = false := by
  unfold leqs
  rw [decide_eq_false_iff_not]
  intro e
  exact h (by rw [e])
theorem leqs_same (l : List (List Int)) : leqs l l = true := decide_eq_true rfl
theorem leq_one (x y : Int) : leq [x] [y] = (x == y) := by
  unfold leq
  rw [Bool.eq_iff_iff]
  simp

/-- A row of slices: each cell of the block B bears one. -/
structure RdL (m : Nat) (w : World) (B : Nat) (L : List (List (List Int))) : Prop where
  each : ∀ (j : Nat) l, L[j]? = some l → ∃ a n c, w.cell? ⟨B, j, none⟩ = some (.slice a n c) ∧ RdM m w a n c l ∧ B < w.heap.size
theorem RdL.on {m : Nat} {w u : World} {B : Nat} {L : List (List (List Int))} (h : RdL m w B L) (hb : Below w.heap.size w u) : RdL m u B L :=
  ⟨fun j l hl => by
    obtain ⟨a, n, c, h1, h2, h3⟩ := h.each j l hl
    exact ⟨a, n, c, by rw [hb.cell h3]; exact h1, h2.on hb, Nat.lt_of_lt_of_le h3 hb.size⟩⟩
theorem flatten_take_snoc {L : List (List (List Int))} {j : Nat} {l : List (List Int)} (h : L[j]? = some l) : (L.take (j + 1)).flatten = (L.take j).flatten ++ l := by
  rw [List.take_add_one, h]
  simp
theorem flatten_take_le (L : List (List (List Int))) (j : Nat) : (L.take j).flatten.length ≤ L.flatten.length := by
  have : L.flatten = (L.take j).flatten ++ (L.drop j).flatten := by rw [← List.flatten_append, List.take_append_drop]
  rw [this, List.length_append]
  omega

theorem eqlM4_guard (x y : Operand) (xs ys : Array Value) (w : World) : (eqGuard .eql 59 x y (.agg xs) (.agg ys)).run Try.prog w = .ok () w := run_eqGuard_agg w .eql 59 x y xs ys (by kernel_rfl)
theorem neqM4_guard (x y : Operand) (xs ys : Array Value) (w : World) : (eqGuard .neq 59 x y (.agg xs) (.agg ys)).run Try.prog w = .ok () w := run_eqGuard_agg w .neq 59 x y xs ys (by kernel_rfl)
theorem equalM4 (x0 x1 x2 x3 y0 y1 y2 y3 : Int) (w : World) : (Op.equalIn 10000 59 (.agg #[.int .i64 x0, .int .i64 x1, .int .i64 x2, .int .i64 x3]) (.agg #[.int .i64 y0, .int .i64 y1, .int .i64 y2, .int .i64 y3])).run Try.prog w = .ok (leq [x0, x1, x2, x3] [y0, y1, y2, y3]) w := by
  have u3 := Try.underlying3
  have a3 := Try.isAgg3
  have z3 := Try.sizeOf3
  have hS : Try.prog.underlying 59 = some (.struct (Try.prog.fieldsOf 59)) := by kernel_rfl
  have hp : Try.prog.stoodInHeld 59 = false := by kernel_rfl
  rw [show (10000 : Nat) = 9999 + 1 from rfl, run_equalIn_agg w 9999 59 _ _ hS hp]
  simp only [Program.fieldsOf, Try.underlying59]
  go_simp
  unfold leq
  by_cases h0 : x0 = y0 <;> by_cases h1 : x1 = y1 <;> by_cases h2 : x2 = y2 <;> by_cases h3 : x3 = y3 <;> simp [h0, h1, h2, h3]
theorem eqlM4 (x0 x1 x2 x3 y0 y1 y2 y3 : Int) (w : World) : (binOp .eql 59 (.agg #[.int .i64 x0, .int .i64 x1, .int .i64 x2, .int .i64 x3]) (.agg #[.int .i64 y0, .int .i64 y1, .int .i64 y2, .int .i64 y3])).run Try.prog w = .ok (.bool (leq [x0, x1, x2, x3] [y0, y1, y2, y3])) w := by
  rw [run_eql_struct, equalM4]
  rfl
theorem neqM4 (x0 x1 x2 x3 y0 y1 y2 y3 : Int) (w : World) : (binOp .neq 59 (.agg #[.int .i64 x0, .int .i64 x1, .int .i64 x2, .int .i64 x3]) (.agg #[.int .i64 y0, .int .i64 y1, .int .i64 y2, .int .i64 y3])).run Try.prog w = .ok (.bool (!leq [x0, x1, x2, x3] [y0, y1, y2, y3])) w := by
  rw [run_neq_struct, equalM4]
  rfl







theorem infoM4 : (Try.prog.info? 59).map (fun i => (i.zero, i.size, i.bytes)) = some (some (.agg #[.int .i64 0, .int .i64 0, .int .i64 0, .int .i64 0]), 4, 32) := by kernel_rfl
theorem infoM1 : (Try.prog.info? 3).map (fun i => (i.zero, i.size, i.bytes)) = some (some (.int .i64 0), 1, 8) := by kernel_rfl

set_option maxRecDepth 100000 in
theorem lrects_any (s : Option Addr) (n c : Nat) (l : List (List Int)) (w : World) (hr : RdM 4 w s n c l) (hn : n ≤ 1000000) :
    Calls Try.prog 25 #[.slice s n c] w fun e w' => ∃ v, e = .returned v ∧ OwM 4 59 w w' v l := by
  obtain ⟨i0, hi, hz0, hz1, hz2⟩ := infoMP infoM4
  have HS := hid (hr.src (P := Try.prog) (t := 57) (e := 59) Try.underlying57)
  have HO := hid (World.ownsRow_nil w w.heap.size 59 4)
  have HL := hid hr.len
  have HK := hid hr.size
  clear hr
  go_enter Try.func25, Try.ntmps25
  go_wp2_with (at_builtin; refine wpList_append_own_src _ rfl (.const (.slice none 0 0)) (.tmp 3) 57 57 rfl w.heap.size 59 i0 (.agg #[.int .i64 0, .int .i64 0, .int .i64 0, .int .i64 0]) 4 32 Try.underlying57 hi hz0 hz1 hz2 rfl _ _ _ rfl HO.out _ _ _ rfl HS.out (by simp only [maxLen]; omega) (fitsM (by omega) (by decide)) (Nat.le_refl _) ?_; intro v3 w3 o3 g3; have HO3 := hid o3; have HG3 := hid g3; clear o3 g3)
  go_ret
  have h3 := HO3.out
  rw [Nat.zero_add, List.nil_append] at h3
  exact ⟨_, rfl, by rw [HL.out]; exact h3, (kp_of_grown HG3.out).below (Nat.le_refl _) (fun k hk => by cases hk), HK.out⟩






end Go.Proofs.Ytegmolmjoiklpaa
