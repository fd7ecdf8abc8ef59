/- tableaulaw04.few; tableaulaw00.SameMsg of two that are the same. -/
import Derived.Test.YtoggnfadfocogaaDoorWireK
import Derived.Laws.StructEq
namespace Go.Proofs.YtoggnfadfocogaaDoor
open Go Go.RowKit

/-- Few, and short. -/
def Few (l : List AV) (s : ByteArray) : Prop := l.length ≤ 30 ∧ s.size ≤ 30 ∧ ∀ x ∈ l, x.s.size ≤ 6000
def FewRet (l : List AV) (s : ByteArray) (e : Ending) : Prop := ∃ b, e = .returned (.bool b) ∧ (b = true → Few l s)

set_option maxRecDepth 100000 in
set_option maxHeartbeats 1000000 in
theorem few_any (o q : Int) (a : Option Addr) (n c : Nat) (l : List AV) (s : ByteArray) (hs : s.size ≤ maxLen) (w : World) (hr : RdA w a n c l) :
    Calls Tryd.prog 9 #[.agg #[.int .i64 o, .int .i64 q, .slice a n c], .string s] w fun e w' => FewRet l s e ∧ Below w.heap.size w w' := by
  have hm := Nat.le_trans hr.le hr.max
  simp only [maxLen] at hm hs
  have hs' : s.size ≤ 9223372036854775807 := by omega
  have hn' : n ≤ 9223372036854775807 := by omega
  have HR : Hid (RdA w a n c l) := hr
  have HB : Hid (Below w.heap.size w (w.alloc (.cells #[.int .i64 o, .int .i64 q, .slice a n c] 24))) := (Below.refl _ _).alloc (Nat.le_refl _) _
  clear hr hm hs
  go_enter Tryd.func9, Tryd.ntmps9
  go_wp2
  go_loop [5] (fun i => ∃ j : Nat, j ≤ n ∧ j ≤ 30 ∧ i = .int .i64 j ∧ ∀ (t : Nat) (x : AV), t < j → l[t]? = some x → x.s.size ≤ 6000) (fun i => n - (intOf i).toNat)
  case atStart => exact ⟨0, Nat.zero_le _, by decide, rfl, fun t x h => by omega⟩
  case round =>
    obtain ⟨j, hj, hj30, rfl, hz⟩ := hrel
    have HZ : Hid (∀ (t : Nat) (x : AV), t < j → l[t]? = some x → x.s.size ≤ 6000) := hz
    clear hz
    by_cases hlt : j < n
    · have e1 : decide ((j : Int) < n) = true := decide_eq_true (by omega)
      by_cases hlt2 : j < 30
      · have e2 : decide ((j : Int) < 30) = true := decide_eq_true (by omega)
        obtain ⟨b, off, rfl, hbs, hc⟩ := HR.out.plain (by omega)
        have hlen := HR.out.len
        obtain ⟨x, hx⟩ : ∃ x, l[j]? = some x := ⟨_, List.getElem?_eq_getElem (by omega)⟩
        obtain ⟨_, _, c2⟩ := hc j x hx
        have hxs : x.s.size ≤ 9223372036854775807 := by have := (HR.out.wf x (List.mem_of_getElem? hx)).s; simp only [maxLen] at this; omega
        have HX : Hid (l[j]? = some x) := hx
        clear hx hc hlen
        by_cases hbig : 6000 < x.s.size
        · have e3 : decide ((6000 : Int) < x.s.size) = true := decide_eq_true (by omega)
          go_wp2
          go_ret
          exact ⟨⟨false, rfl, fun h => by cases h⟩, HB.out⟩
        · have e3 : decide ((6000 : Int) < x.s.size) = false := decide_eq_false (by omega)
          go_wp2
          go_round
          case rel => exact ⟨j + 1, by omega, by omega, by go_num, fun t y ht hy => by rcases Nat.lt_or_ge t j with h' | h'; exact HZ.out t y h' hy; obtain rfl : t = j := (by omega); obtain rfl := Option.some.inj (hy.symm.trans HX.out); omega⟩
          case measure => simp [intOf]; omega
      · have e2 : decide ((j : Int) < 30) = false := decide_eq_false (by omega)
        have e3 : decide ((n : Int) ≤ 30) = false := decide_eq_false (by omega)
        go_wp2
        go_ret
        exact ⟨⟨false, rfl, fun h => by cases h⟩, HB.out⟩
    · have e1 : decide ((j : Int) < n) = false := decide_eq_false (by omega)
      have e3 : decide ((n : Int) ≤ 30) = true := decide_eq_true (by omega)
      have hl := HR.out.len
      by_cases hs30 : s.size ≤ 30
      · have e4 : decide ((s.size : Int) ≤ 30) = true := decide_eq_true (by omega)
        have HFW : Hid (Few l s) := ⟨by omega, hs30, fun x hx => by
          obtain ⟨i, hi, he⟩ := List.getElem_of_mem hx
          exact HZ.out i x (by omega) (by rw [List.getElem?_eq_getElem hi, he])⟩
        clear hl hs30
        go_wp2
        go_ret
        exact ⟨⟨true, rfl, fun _ => HFW.out⟩, HB.out⟩
      · have e4 : decide ((s.size : Int) ≤ 30) = false := decide_eq_false (by omega)
        clear hl hs30
        go_wp2
        go_ret
        exact ⟨⟨false, rfl, fun h => by cases h⟩, HB.out⟩

theorem neq_guard (x y : Operand) (xs ys : Array Value) (w : World) : (eqGuard .neq 60 x y (.agg xs) (.agg ys)).run Tryd.prog w = .ok () w := run_eqGuard_agg w .neq 60 x y xs ys (by kernel_rfl)

theorem neq_arg (k n : Int) (s : ByteArray) (w : World) : (binOp .neq 60 (.agg #[.int .u8 k, .int .i64 n, .string s]) (.agg #[.int .u8 k, .int .i64 n, .string s])).run Tryd.prog w = .ok (.bool false) w := by
  have u5 := Tryd.underlying5
  have a5 := Tryd.isAgg5
  have z5 := Tryd.sizeOf5
  have u3 := Tryd.underlying3
  have a3 := Tryd.isAgg3
  have z3 := Tryd.sizeOf3
  have u9 := Tryd.underlying9
  have a9 := Tryd.isAgg9
  have z9 := Tryd.sizeOf9
  have hS : Tryd.prog.underlying 60 = some (.struct (Tryd.prog.fieldsOf 60)) := by kernel_rfl
  have hp : Tryd.prog.stoodInHeld 60 = false := by kernel_rfl
  rw [run_neq_struct, show (10000 : Nat) = 9999 + 1 from rfl, run_equalIn_agg w 9999 60 _ _ hS hp]
  simp only [Program.fieldsOf, Tryd.underlying60]
  go_simp

set_option maxRecDepth 100000 in
set_option maxHeartbeats 1000000 in
theorem same_any (o q : Int) (a : Option Addr) (n c : Nat) (a' : Option Addr) (c' : Nat) (l : List AV) (w : World) (hr : RdA w a n c l) (hr' : RdA w a' n c' l) (hn : n ≤ 1000000) :
    Calls Tryd.prog 22 #[.agg #[.int .i64 o, .int .i64 q, .slice a n c], .agg #[.int .i64 o, .int .i64 q, .slice a' n c']] w fun e w' => e = .returned (.bool true) ∧ Below w.heap.size w w' := by
  have HR : Hid (RdA w a n c l) := hr
  have HR' : Hid (RdA w a' n c' l) := hr'
  have hne := neq_arg
  have hgd := neq_guard
  have HB : Hid (Below w.heap.size w ((w.alloc (.cells #[.int .i64 o, .int .i64 q, .slice a n c] 24)).alloc (.cells #[.int .i64 o, .int .i64 q, .slice a' n c'] 24))) := ((Below.refl _ _).alloc (Nat.le_refl _) _).alloc (by simp) _
  have o1 : (o != o) = false := by simp
  have q1 : (q != q) = false := by simp
  have n1 : ((n : Int) != n) = false := by simp
  clear hr hr'
  go_enter Tryd.func22, Tryd.ntmps22
  go_wp2
  go_loopw [5] (fun i wr => ∃ j : Nat, j ≤ n ∧ i = .int .i64 j ∧ ∃ r, wr = ((w.alloc (.cells #[.int .i64 o, .int .i64 q, .slice a n c] 24)).alloc (.cells #[.int .i64 o, .int .i64 q, .slice a' n c'] 24)).drewN r) (fun i _ => n - (intOf i).toNat)
  case atStart => exact ⟨0, Nat.zero_le _, rfl, 0, rfl⟩
  case round =>
    obtain ⟨j, hj, rfl, r, rfl⟩ := hrel
    by_cases hlt : j < n
    · obtain ⟨b, off, rfl, hbs, hc⟩ := HR.out.plain (by omega)
      obtain ⟨b', off', rfl, hbs', hc'⟩ := HR'.out.plain (by omega)
      have hlen := HR.out.len
      obtain ⟨x, hx⟩ : ∃ x, l[j]? = some x := ⟨_, List.getElem?_eq_getElem (by omega)⟩
      obtain ⟨c0, c1, c2⟩ := hc j x hx
      obtain ⟨d0, d1, d2⟩ := hc' j x hx
      clear hx hc hc' hlen
      have hlt' : (j : Int) < n := by omega
      go_wp2
      go_quiet (fail)
      go_wp2
      go_roundw
      case rel => exact ⟨j + 1, by omega, by go_num, _, rfl⟩
      case measure => simp [intOf]; omega
    · go_wp2
      go_ret
      exact ⟨rfl, below_drewN HB.out _⟩
end Go.Proofs.YtoggnfadfocogaaDoor
