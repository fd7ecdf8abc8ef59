/- tableaulaw05's same (of two that are the same) and awake. -/
import Derived.Test.YtfbebifbfpkdaaaDoorRdrG
import Derived.Laws.StructEq
import Derived.Lib.SlBytesConst
import Derived.Lib.SmallJoins
import Derived.Deep.QuietTactic
namespace Go.Proofs.YtfbebifbfpkdaaaDoor
open Go Go.RowKit

theorem neq_guard (x y : Operand) (xs ys : Array Value) (w : World) : (eqGuard .neq 46 x y (.agg xs) (.agg ys)).run Tryd.prog w = .ok () w := run_eqGuard_agg w .neq 46 x y xs ys (by kernel_rfl)
theorem eql_guard (x y : Operand) (xs ys : Array Value) (w : World) : (eqGuard .eql 46 x y (.agg xs) (.agg ys)).run Tryd.prog w = .ok () w := run_eqGuard_agg w .eql 46 x y xs ys (by kernel_rfl)

theorem same_raw (k n : Int) (s : ByteArray) (w : World) : (Op.equalIn 10000 46 (.agg #[.int .i64 k, .int .i64 n, .string s]) (.agg #[.int .i64 k, .int .i64 n, .string s])).run Tryd.prog w = .ok true w := by
  have u3 := Tryd.underlying3
  have a3 := Tryd.isAgg3
  have z3 := Tryd.sizeOf3
  have u9 := Tryd.underlying9
  have a9 := Tryd.isAgg9
  have z9 := Tryd.sizeOf9
  have hS : Tryd.prog.underlying 46 = some (.struct (Tryd.prog.fieldsOf 46)) := by kernel_rfl
  have hp : Tryd.prog.stoodInHeld 46 = false := by kernel_rfl
  rw [show (10000 : Nat) = 9999 + 1 from rfl, run_equalIn_agg w 9999 46 _ _ hS hp]
  simp only [Program.fieldsOf, Tryd.underlying46]
  go_simp

theorem neq_raw (k n : Int) (s : ByteArray) (w : World) : (binOp .neq 46 (.agg #[.int .i64 k, .int .i64 n, .string s]) (.agg #[.int .i64 k, .int .i64 n, .string s])).run Tryd.prog w = .ok (.bool false) w := by
  rw [run_neq_struct, same_raw]
  rfl
theorem eql_raw (k n : Int) (s : ByteArray) (w : World) : (binOp .eql 46 (.agg #[.int .i64 k, .int .i64 n, .string s]) (.agg #[.int .i64 k, .int .i64 n, .string s])).run Tryd.prog w = .ok (.bool true) w := by
  rw [run_eql_struct, same_raw]
  rfl

set_option maxRecDepth 100000 in
set_option maxHeartbeats 1000000 in
theorem same_any (a : Option Addr) (n c : Nat) (a' : Option Addr) (c' : Nat) (l : List RV) (w : World) (hr : RdR w a n c l) (hr' : RdR w a' n c' l) (hn : n ≤ 1000000) :
    Calls Tryd.prog 14 #[.slice a n c, .slice a' n c'] w fun e w' => e = .returned (.bool true) ∧ ∃ q, w' = w.drewN q := by
  have HR := hid hr
  have HR' := hid hr'
  have hne := neq_raw
  have hgd := neq_guard
  have n1 : ((n : Int) != n) = false := by simp
  clear hr hr'
  go_enter Tryd.func14, Tryd.ntmps14
  go_wp2
  go_loopw [5] (fun i wr => ∃ j : Nat, j ≤ n ∧ i = .int .i64 j ∧ ∃ r, wr = w.drewN r) (fun i _ => n - (intOf i).toNat)
  case atStart => exact ⟨0, Nat.zero_le _, rfl, 0, rfl⟩
  case round =>
    obtain ⟨j, hj, rfl, r, rfl⟩ := hrel
    by_cases hlt : j < n
    · obtain ⟨b, off, rfl, hbs, hc⟩ := HR.out.plain (by omega)
      obtain ⟨b', off', rfl, hbs', hc'⟩ := HR'.out.plain (by omega)
      have hlen := HR.out.len
      obtain ⟨x, hx⟩ : ∃ x, l[j]? = some x := ⟨_, List.getElem?_eq_getElem (by omega)⟩
      obtain ⟨c0, c1, c2⟩ := hc j x hx
      obtain ⟨d0, d1, d2⟩ := hc' j x hx
      clear hx hc hc' hlen
      have hlt' : (j : Int) < n := by omega
      go_wp2
      go_quiet (fail)
      go_wp2
      go_roundw
      case rel => exact ⟨j + 1, by omega, by go_num, _, rfl⟩
      case measure => simp [intOf]; omega
    · go_wp2
      go_ret
      exact ⟨rfl, _, rfl⟩

theorem tk_seven : tk [1, 0, 0, 0, 2, 0, 8] = ([], [1, 0, 0, 0, 2, 0, 8], 0) := tk_short (by decide)
theorem hdS_eight : hdS [1, 0, 0, 0, 2, 0, 8, 0] = 8 := by decide
theorem fM_eight : fM [1, 0, 0, 0, 2, 0, 8, 0] = ⟨1, 2, ⟨#[]⟩⟩ := by
  rw [fM, hdS_eight, show hdO [1, 0, 0, 0, 2, 0, 8, 0] = 1 by decide, show hdP [1, 0, 0, 0, 2, 0, 8, 0] = 2 by decide]
  rfl
theorem tk_eight : tk [1, 0, 0, 0, 2, 0, 8, 0] = ([⟨1, 2, ⟨#[]⟩⟩], [], 0) := by
  rw [tk_zero (by decide), hdS_eight, fM_eight, show (List.drop 8 ([1, 0, 0, 0, 2, 0, 8, 0] : List UInt8)) = [] from rfl, tk_nil]

/-- A literal's row. -/
theorem rd_lit (w : World) (l : List UInt8) (C : Array Value) (hC : C.toList = bc l) (e : TypeId) (fr : Nat × Nat) (hl : l.length ≤ maxLen) : Rd (w.alloc (.cells C e fr)) (some ⟨w.heap.size, 0, none⟩) l.length l.length l :=
  ⟨rfl, Nat.le_refl _, hl, (fun h => by cases h), fun x hx j u hu => by
    cases hx
    rw [Go.WideShapes.add_plain, Nat.zero_add, World.cell?_alloc_mark, ← Array.getElem?_toList, hC]
    exact hu⟩

set_option maxRecDepth 100000 in
set_option maxHeartbeats 1000000 in
theorem awake5_any (w : World) (es : List Addr) (hE : Errs w gerrs es) :
    Calls Tryd.prog 8 #[] w fun e w' => e = .returned (.bool true) ∧ Below w.heap.size w w' := by
  have HE := hid hE
  clear hE
  go_enter Tryd.func8, Tryd.ntmps8
  go_wp2_with fail
  refine (new_any w es).mono ?_
  rintro e w1 ⟨rfl, hb1, hs1, hr1⟩
  have HB1 := hid hb1
  have HR1 := hid (hr1 w.heap.size (Nat.le_refl _))
  have kc := fun (w : World) (C : Array Value) (n c : Nat) => Lib.run_convert_bytes_const (P := Tryd.prog) w 26 5 C n c Tryd.underlying26 Tryd.underlying5
  have HF1 : Hid (Calls Tryd.prog 9 #[.pointer (some ⟨w.heap.size, 0, none⟩), .slice (some ⟨w1.heap.size, 0, none⟩) 7 7] (w1.alloc (.cells #[.int .u8 1, .int .u8 0, .int .u8 0, .int .u8 0, .int .u8 2, .int .u8 0, .int .u8 8] 5 (7, 8))) fun e w' => ∃ a c v, e = .returned (.tuple #[.slice a 0 c, .nilIface]) ∧ Below w.heap.size w w' ∧ Rdr w.heap.size w' w.heap.size v ⟨[1, 0, 0, 0, 2, 0, 8], 0⟩ es) := by
    have hb := hb1.alloc hb1.size (.cells #[.int .u8 1, .int .u8 0, .int .u8 0, .int .u8 0, .int .u8 2, .int .u8 0, .int .u8 8] 5 (7, 8))
    have hR := HR1.out.kept (kp_of_below ((Below.refl _ w1).alloc (Nat.le_refl _) (.cells #[.int .u8 1, .int .u8 0, .int .u8 0, .int .u8 0, .int .u8 2, .int .u8 0, .int .u8 8] 5 (7, 8))) []) (fun _ _ h => by cases h)
    refine (feed_any w _ hb es HE.out w.heap.size _ ⟨[], 0⟩ (by decide) hR _ 7 7 [1, 0, 0, 0, 2, 0, 8] (rd_lit w1 [1, 0, 0, 0, 2, 0, 8] _ rfl _ _ (by decide)) (by decide)).mono ?_
    rintro e w' ⟨r, v, rfl, h1, h2, h3, _⟩
    have e1 : fdM ⟨[], 0⟩ [1, 0, 0, 0, 2, 0, 8] = [] := congrArg Prod.fst tk_seven
    have e2 : fdE ⟨[], 0⟩ [1, 0, 0, 0, 2, 0, 8] = 0 := congrArg (fun x => x.2.2) tk_seven
    have e3 : fdS ⟨[], 0⟩ [1, 0, 0, 0, 2, 0, 8] = ⟨[1, 0, 0, 0, 2, 0, 8], 0⟩ := congrArg (fun x => (⟨x.2.1, x.2.2⟩ : St)) tk_seven
    rw [e1] at h1
    rw [e3] at h2
    rw [e2]
    obtain ⟨a, c, rfl, _, _⟩ := rdr_of_owns h1
    exact ⟨a, c, v, rfl, hb.trans (h3.below hb.size (hR.own_lo)), h2⟩
  clear hb1 hs1 hr1
  go_wp2_with fail
  refine HF1.out.mono ?_
  rintro e w2 ⟨a2, c2, v2, rfl, hb2, hR2⟩
  have HF2 : Hid (Calls Tryd.prog 9 #[.pointer (some ⟨w.heap.size, 0, none⟩), .slice (some ⟨w2.heap.size, 0, none⟩) 1 1] (w2.alloc (.cells #[.int .u8 0] 5 (0, 0))) fun e w' => ∃ g c v, e = .returned (.tuple #[.slice (some ⟨g, 0, none⟩) 1 c, .nilIface]) ∧ (w'.cell? ⟨g, 0, none⟩ = some (.int .i64 1) ∧ w'.cell? ⟨g, 1, none⟩ = some (.int .i64 2) ∧ w'.cell? ⟨g, 2, none⟩ = some (.string ⟨#[]⟩)) ∧ 1 ≤ c ∧ Below w.heap.size w w' ∧ Rdr w.heap.size w' w.heap.size v ⟨[], 0⟩ es) := by
    have hb := hb2.alloc hb2.size (.cells #[.int .u8 0] 5 (0, 0))
    have hR := hR2.kept (kp_of_below ((Below.refl _ w2).alloc (Nat.le_refl _) (.cells #[.int .u8 0] 5 (0, 0))) []) (fun _ _ h => by cases h)
    refine (feed_any w _ hb es HE.out w.heap.size _ ⟨[1, 0, 0, 0, 2, 0, 8], 0⟩ (by decide) hR _ 1 1 [0] (rd_lit w2 [0] _ rfl _ _ (by decide)) (by decide)).mono ?_
    rintro e w' ⟨r, v, rfl, h1, h2, h3, _⟩
    have e1 : fdM ⟨[1, 0, 0, 0, 2, 0, 8], 0⟩ [0] = [⟨1, 2, ⟨#[]⟩⟩] := congrArg Prod.fst tk_eight
    have e2 : fdE ⟨[1, 0, 0, 0, 2, 0, 8], 0⟩ [0] = 0 := congrArg (fun x => x.2.2) tk_eight
    have e3 : fdS ⟨[1, 0, 0, 0, 2, 0, 8], 0⟩ [0] = ⟨[], 0⟩ := congrArg (fun x => (⟨x.2.1, x.2.2⟩ : St)) tk_eight
    rw [e1] at h1
    rw [e3] at h2
    rw [e2]
    obtain ⟨a, c, rfl, hrd, _⟩ := rdr_of_owns h1
    obtain ⟨g, rfl⟩ : ∃ g, a = some ⟨g, 0, none⟩ := by
      rcases h1.2 with ⟨h, _⟩ | ⟨g, cap, cur, h, _⟩
      · cases h
      · cases h; exact ⟨g, rfl⟩
    obtain ⟨b, off, he, _, hc⟩ := hrd.plain (by decide)
    cases he
    exact ⟨g, c, v, rfl, hc 0 _ rfl, hrd.le, hb.trans (h3.below hb.size (hR.own_lo)), h2⟩
  clear hb2 hR2 HF1 HR1
  go_wp2_with fail
  refine HF2.out.mono ?_
  rintro e w3 ⟨g, c3, v3, rfl, ⟨y0, y1, y2⟩, hc3, hb3, hR3⟩
  have HL := hid (left_any w3 _ _ _ _ _ hR3)
  have HB3 := hid hb3
  have heq := eql_raw
  have hgd := eql_guard
  clear hb3 hR3 HF2
  go_wp2_with fail
  refine HL.out.mono ?_
  rintro e w4 ⟨rfl, rfl⟩
  go_wp2
  go_ret
  exact ⟨rfl, HB3.out⟩
end Go.Proofs.YtfbebifbfpkdaaaDoor
