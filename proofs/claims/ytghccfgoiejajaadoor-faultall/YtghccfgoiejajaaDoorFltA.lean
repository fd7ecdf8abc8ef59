/- Errors that wrap: a chain of wrapped errors and faults down to its last one; errors.Is at a listed error goes down the chain. -/
import Derived.Test.YtghccfgoiejajaaDoorLibX
namespace Go.Proofs.YtghccfgoiejajaaDoor
open Go Go.RowKit

/-- An error of errors.New's make. -/
abbrev eS (a : Addr) : Value := .iface 68 (.pointer (some a))
/-- A fault. -/
abbrev eF (b : Nat) : Value := .iface 40 (.pointer (some ⟨b, 0, none⟩))
/-- An error with words ahead. -/
abbrev eW (b : Nat) : Value := .iface 48 (.pointer (some ⟨b, 0, none⟩))

def rank : Value → Nat
  | .iface _ (.pointer (some a)) => a.block + 1
  | _ => 0

/-- v wraps its way down to L (no error: a fault of none); F: the first fault on the way. -/
inductive Ch (w : World) (L : Value) : Value → Option Nat → Prop where
  | leaf (a : Addr) (h : L = eS a) : Ch w L (eS a) none
  | wrap (b : Nat) (s : ByteArray) (v : Value) (F : Option Nat) (h : w.heap[b]? = some (.cells #[.string s, v] 50 (0, 0))) (hr : rank v < b + 1) (hv : Ch w L v F) : Ch w L (eW b) F
  | fault (b : Nat) (o c : Int) (s : ByteArray) (v : Value) (F : Option Nat) (h : w.heap[b]? = some (.cells #[.int .i64 o, .int .i64 c, .string s, v] 31 (0, 0))) (hr : rank v < b + 1) (hv : Ch w L v F) : Ch w L (eF b) (some b)
  | none (b : Nat) (o c : Int) (s : ByteArray) (h : w.heap[b]? = some (.cells #[.int .i64 o, .int .i64 c, .string s, .nilIface] 31 (0, 0))) (hL : L = .nilIface) : Ch w L (eF b) (some b)

theorem Ch.stays {w w' : World} {L v : Value} {F : Option Nat} (h : Ch w L v F) (hb : Below w.heap.size w w') : Ch w' L v F := by
  have blk : ∀ {b o}, w.heap[b]? = some o → w'.heap[b]? = some o := fun {b o} e => by
    rw [hb.block _ (Array.getElem?_eq_some_iff.1 e).1]
    exact e
  induction h with
  | leaf a h => exact .leaf a h
  | wrap b s v F h hr _ ih => exact .wrap b s v F (blk h) hr ih
  | fault b o c s v F h hr _ ih => exact .fault b o c s v F (blk h) hr ih
  | none b o c s h hL => exact .none b o c s (blk h) hL

theorem Ch.iface {w : World} {L v : Value} {F : Option Nat} (h : Ch w L v F) : ∃ t q, v = .iface t q := by
  cases h <;> exact ⟨_, _, rfl⟩

theorem eqNe (tx ty : TypeId) (vx vy : Value) (hne : tx ≠ ty) (w : World) : (binOp .eql 24 (.iface tx vx) (.iface ty vy)).run Tryd.prog w = .ok (.bool false) w := run_eql_iface_types tx ty vx vy Tryd.underlying24 hne w
theorem noIsF (v : Value) (xT : TypeId) (w : World) : (Instr.typeAssert (.iface 40 v) xT 74 true).run Tryd.prog w = .ok (.tuple #[.nilIface, .bool false]) w := run_typeAssert_lacksB Tryd.underlying74 (by kernel_rfl) (by kernel_rfl) v xT w
theorem noIsW (v : Value) (xT : TypeId) (w : World) : (Instr.typeAssert (.iface 48 v) xT 74 true).run Tryd.prog w = .ok (.tuple #[.nilIface, .bool false]) w := run_typeAssert_lacksB Tryd.underlying74 (by kernel_rfl) (by kernel_rfl) v xT w
theorem unwrapF (v : Value) (xT : TypeId) (w : World) : (Instr.typeAssert (.iface 40 v) xT 77 true).run Tryd.prog w = .ok (.tuple #[.iface 40 v, .bool true]) w := run_typeAssert_hasB Tryd.underlying77 (by kernel_rfl) v xT w
theorem unwrapW (v : Value) (xT : TypeId) (w : World) : (Instr.typeAssert (.iface 48 v) xT 77 true).run Tryd.prog w = .ok (.tuple #[.iface 48 v, .bool true]) w := run_typeAssert_hasB Tryd.underlying77 (by kernel_rfl) v xT w
theorem mUnwrapF (n : Nat) (v : Value) (w : World) : (Go.method (n + 1) 40 v "Unwrap").run Tryd.prog w = .ok (51, v) w := by kernel_rfl
theorem mUnwrapW (n : Nat) (v : Value) (w : World) : (Go.method (n + 1) 48 v "Unwrap").run Tryd.prog w = .ok (53, v) w := by kernel_rfl

/-- What the comparison with the listed error x needs of the chain's last one. -/
def Apart (w : World) (L : Value) (x : Addr) : Prop := ∀ a, L = eS a → a ≠ x → (∃ c t, w.heap[a.block]? = some (.cells c t (0, 0))) ∧ ∃ c t, w.heap[x.block]? = some (.cells c t (0, 0))

set_option maxRecDepth 100000 in
theorem is_chain (w : World) (L v : Value) (F : Option Nat) (x : Addr) (h : Ch w L v F) (hA : Apart w L x) (r : Bool) (hr : r = true ↔ L = eS x) :
    Calls Tryd.prog 27 #[v, eS x, .bool true] w fun e w' => e = .returned (.bool r) ∧ w' = w := by
  obtain ⟨i, hi, hcmp⟩ := Option.map_eq_some_iff.1 isComp
  obtain ⟨j, hj, hjs⟩ := Option.map_eq_some_iff.1 isSize
  have nE := noIsE
  have uE := noUnwrapE
  have vE := noUnwrapsE
  have nF := noIsF
  have uF := unwrapF
  have nW := noIsW
  have uW := unwrapW
  have mF := mUnwrapF
  have mW := mUnwrapW
  have HA : Hid (Apart w L x) := hA
  clear hA
  have HR : Hid (r = true ↔ L = eS x) := hr
  clear hr
  go_enter Tryd.func27, Tryd.ntmps27
  go_wp2
  go_loop [0] (fun v => ∃ F, Ch w L v F) (fun v => rank v)
  case atStart => exact ⟨F, h⟩
  case round =>
    obtain ⟨F, hc⟩ := hrel
    cases hc with
    | leaf a hL =>
      have HL : Hid (L = eS a) := hL
      clear hL h
      by_cases hax : a = x
      · subst hax
        have hh : Hid (r = true) := HR.out.2 HL.out
        have heq := run_eql_iface_ptr_same (P := Tryd.prog) w a Tryd.underlying24 Tryd.underlying68 hi hcmp hj
        go_wp2
        go_ret
        exact ⟨by rw [hh.out]; rfl, rfl⟩
      · obtain ⟨⟨ca, ta, ha⟩, cb, tb, hb⟩ := HA.out a HL.out hax
        have hh : Hid (r = false) := by
          show r = false
          cases hr : r
          · rfl
          · have := HL.out.symm.trans (HR.out.1 hr)
            simp only [eS, Value.iface.injEq, Value.pointer.injEq, Option.some.injEq, true_and] at this
            exact absurd this hax
        have heq := run_eql_iface_ptr_other (P := Tryd.prog) w Tryd.underlying24 Tryd.underlying68 hi hcmp hj (by rw [hjs]; decide) hax ha hb
        clear ha hb
        go_wp2
        go_ret
        exact ⟨by rw [hh.out]; rfl, rfl⟩
    | wrap b s v F hb hr hv =>
      have heq := eqNe 48 68 (.pointer (some ⟨b, 0, none⟩)) (.pointer (some x)) (by decide) w
      have c1 : w.cell? ⟨b, 1, none⟩ = some v := by rw [World.cell?, hb]; rfl
      obtain ⟨t, q, rfl⟩ := hv.iface
      have HV : Hid (Ch w L (.iface t q) F) := hv
      have HM : Hid (rank (.iface t q) < b + 1) := hr
      clear hv hr hb h
      go_wp2
      go_round
      case rel => exact ⟨F, HV.out⟩
      case measure => exact HM.out
    | fault b o c s v F hb hr hv =>
      have heq := eqNe 40 68 (.pointer (some ⟨b, 0, none⟩)) (.pointer (some x)) (by decide) w
      have c3 : w.cell? ⟨b, 3, none⟩ = some v := by rw [World.cell?, hb]; rfl
      obtain ⟨t, q, rfl⟩ := hv.iface
      have HV : Hid (Ch w L (.iface t q) F) := hv
      have HM : Hid (rank (.iface t q) < b + 1) := hr
      clear hv hr hb h
      go_wp2
      go_round
      case rel => exact ⟨F, HV.out⟩
      case measure => exact HM.out
    | none b o c s hb hL =>
      have heq := eqNe 40 68 (.pointer (some ⟨b, 0, none⟩)) (.pointer (some x)) (by decide) w
      have c3 : w.cell? ⟨b, 3, none⟩ = some .nilIface := by rw [World.cell?, hb]; rfl
      have hh : Hid (r = false) := by
        show r = false
        cases hr : r
        · rfl
        · have := hL.symm.trans (HR.out.1 hr)
          cases this
      clear hL hb h
      go_wp2
      go_ret
      exact ⟨by rw [hh.out]; rfl, rfl⟩

theorem Is_chain (w : World) (L v : Value) (F : Option Nat) (x : Addr) (h : Ch w L v F) (hA : Apart w L x) (r : Bool) (hr : r = true ↔ L = eS x) :
    Calls Tryd.prog 20 #[v, eS x] w fun e w' => e = .returned (.bool r) ∧ w' = w := by
  have h8 := @run_callFunc_extern Tryd.prog 26 _ Extern.ReflectliteType.typeOf Tryd.func26 (by kernel_rfl) (by kernel_rfl) (by kernel_rfl) (by kernel_rfl)
  have h32 := @run_callFunc_extern Tryd.prog 64 _ (Extern.ReflectliteType.method fun t => do Extern.Rtype.noPackHeld "Comparable" t; pure (.bool (← typeInfo t).comparable)) Tryd.func64 (by kernel_rfl) (by kernel_rfl) (by kernel_rfl) (by kernel_rfl)
  have tT := isTypeOf
  have cT := isComparable
  have mR := isMethodComparable
  have HC : Hid (∀ w', w' = w → Calls Tryd.prog 27 #[v, eS x, .bool true] w' fun e w' => e = .returned (.bool r) ∧ w' = w) := fun w' e => by subst e; exact is_chain w' L v F x h hA r hr
  obtain ⟨t, q, rfl⟩ := h.iface
  clear h hA hr
  go_enter Tryd.func20, Tryd.ntmps20
  go_wp2_with (go_at_call 27; refine (HC.out _ rfl).mono ?_; rintro e w' ⟨rfl, rfl⟩)
  go_ret
  exact ⟨rfl, rfl⟩


theorem eqNilS (x : Addr) (w : World) : (binOp .eql 24 .nilIface (eS x)).run Tryd.prog w = .ok (.bool false) w := by kernel_rfl
theorem eqNils (w : World) : (binOp .eql 24 .nilIface .nilIface).run Tryd.prog w = .ok (.bool true) w := by kernel_rfl

set_option maxRecDepth 100000 in
theorem Is_nil (w : World) (x : Addr) : Calls Tryd.prog 20 #[.nilIface, eS x] w fun e w' => e = .returned (.bool false) ∧ w' = w := by
  have heq := eqNilS
  go_enter Tryd.func20, Tryd.ntmps20
  go_wp2
  go_ret
  exact ⟨rfl, rfl⟩

end Go.Proofs.YtghccfgoiejajaaDoor
