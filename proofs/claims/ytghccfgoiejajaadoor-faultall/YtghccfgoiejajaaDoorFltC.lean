/- errors.As at a target of the type **api.Fault: the first fault of the chain, or none. -/
import Derived.Test.YtghccfgoiejajaaDoorFltB
namespace Go.Proofs.YtghccfgoiejajaaDoor
open Go Go.RowKit Go.Extern

/-- reflectlite's Value of a **api.Fault that lies at n. -/
abbrev rvPP (a : Addr) : Value := .agg #[.pointer (some ⟨17, 42, none⟩), .pointer (some a), .int .u64 150]
/-- The handle of *api.Fault. -/
abbrev rtP : Value := .iface 72 (.agg #[.pointer (some ⟨17, 40, none⟩)])
abbrev rtPP : Value := .iface 72 (.agg #[.pointer (some ⟨17, 42, none⟩)])

theorem asValueOf (t : Addr) (w : World) : (ReflectliteValue.unpack (.iface 42 (.pointer (some t)))).run Tryd.prog w
    = .ok (rvPP ⟨w.heap.size, 0, none⟩) (w.alloc (.cells #[.pointer (some t)] 42)) := by kernel_rfl
theorem asType (a : Addr) (w : World) : (ReflectliteValue.methodAny (ReflectliteValue.valueError "reflectlite.Value.Type" 0) (fun t _ _ _ => ReflectliteType.toType t) #[rvPP a]).run Tryd.prog w = .ok rtPP w := by kernel_rfl
theorem asMethodKind (n : Nat) (h : Value) (w : World) : (Go.method (n + 2) 72 (.agg #[h]) "Kind").run Tryd.prog w = .ok (48, h) w := by kernel_rfl
theorem asKindPP (w : World) : ((ReflectliteType.abiMethod fun t => (fun a : Nat => Value.int IntKind.u8 (a : Int)) <$> Rtype.kind t) #[.pointer (some ⟨17, 42, none⟩)]).run Tryd.prog w = .ok (.int .u8 22) w := by kernel_rfl
theorem asKindP (w : World) : ((ReflectliteType.abiMethod fun t => (fun a : Nat => Value.int IntKind.u8 (a : Int)) <$> Rtype.kind t) #[.pointer (some ⟨17, 40, none⟩)]).run Tryd.prog w = .ok (.int .u8 22) w := by kernel_rfl
theorem asPartsPP (a : Addr) (w : World) : (ReflectliteValue.parts (rvPP a)).run Tryd.prog w = .ok (some (42, a, 150)) w := by kernel_rfl
theorem asMeth (z : Sem Value) (f : TypeId → Addr → Nat → Nat → Sem Value) (v : Value) (w : World) {t : TypeId} {a : Addr} {fl : Nat} (h : (ReflectliteValue.parts v).run Tryd.prog w = .ok (some (t, a, fl)) w) :
    (ReflectliteValue.method z f #[v]).run Tryd.prog w = (f t a fl (fl % 32)).run Tryd.prog w := by
  have e : ReflectliteValue.method z f #[v] = (ReflectliteValue.parts v >>= fun | none => z | some (t, a, fl) => f t a fl (fl % 32)) := rfl
  rw [e]
  simp only [Sem.run_bind, h, Result.andThen]
theorem asIsNil (a p : Addr) (w : World) (ha : w.cell? a = some (.pointer (some p))) :
    (ReflectliteValue.method (ReflectliteValue.valueError "reflectlite.Value.IsNil" 0) ReflectliteValue.isNil #[rvPP a]).run Tryd.prog w = .ok (.bool false) w := by
  rw [asMeth _ _ _ _ (asPartsPP a w)]
  simp [ReflectliteValue.isNil, loadVar, isAgg, underlying, Tryd.underlying42, ha, Result.andThen]
theorem asMethodElem (n : Nat) (h : Value) (w : World) : (Go.method (n + 1) 72 (.agg #[h]) "Elem").run Tryd.prog w = .ok (65, .agg #[h]) w := by kernel_rfl
theorem asMethodImplements (n : Nat) (h : Value) (w : World) : (Go.method (n + 1) 72 (.agg #[h]) "Implements").run Tryd.prog w = .ok (66, .agg #[h]) w := by kernel_rfl
theorem asMethodAssignable (n : Nat) (h : Value) (w : World) : (Go.method (n + 1) 72 (.agg #[h]) "AssignableTo").run Tryd.prog w = .ok (63, .agg #[h]) w := by kernel_rfl
theorem asElem (w : World) : (ReflectliteType.method ReflectliteType.elem #[.agg #[.pointer (some ⟨17, 42, none⟩)]]).run Tryd.prog w = .ok rtP w := by kernel_rfl
theorem asImplements (w : World) : (ReflectliteType.relation "Implements" ReflectliteType.implements_ #[.agg #[.pointer (some ⟨17, 40, none⟩)], .iface 72 (.agg #[.pointer (some ⟨17, 24, none⟩)])]).run Tryd.prog w = .ok (.bool true) w := by kernel_rfl
theorem asTypeOf (t : TypeId) (ht : t = 40 ∨ t = 48 ∨ t = 68) (v : Value) (w : World) : (ReflectliteType.typeOf #[.iface t v]).run Tryd.prog w = .ok (.iface 72 (.agg #[.pointer (some ⟨17, t, none⟩)])) w := by
  rcases ht with rfl | rfl | rfl <;> kernel_rfl
theorem asAssignableF (w : World) : (ReflectliteType.relation "AssignableTo" ReflectliteType.assignableTo #[.agg #[.pointer (some ⟨17, 40, none⟩)], rtP]).run Tryd.prog w = .ok (.bool true) w := by kernel_rfl
theorem asAssignableW (w : World) : (ReflectliteType.relation "AssignableTo" ReflectliteType.assignableTo #[.agg #[.pointer (some ⟨17, 48, none⟩)], rtP]).run Tryd.prog w = .ok (.bool false) w := by kernel_rfl
theorem asAssignableE (w : World) : (ReflectliteType.relation "AssignableTo" ReflectliteType.assignableTo #[.agg #[.pointer (some ⟨17, 68, none⟩)], rtP]).run Tryd.prog w = .ok (.bool false) w := by kernel_rfl
theorem asValueOfP (e : Addr) (w : World) : (ReflectliteValue.unpack (.iface 40 (.pointer (some e)))).run Tryd.prog w
    = .ok (.agg #[.pointer (some ⟨17, 40, none⟩), .pointer (some ⟨w.heap.size, 0, none⟩), .int .u64 150]) (w.alloc (.cells #[.pointer (some e)] 40)) := by kernel_rfl
theorem asElemOf (w : World) : (Rtype.elem? 42).run Tryd.prog w = .ok (some 40) w := by kernel_rfl
theorem asMk (p : Addr) (w : World) : (ReflectliteValue.mk 40 p ReflectliteValue.flagAddr).run Tryd.prog w = .ok (.agg #[.pointer (some ⟨17, 40, none⟩), .pointer (some p), .int .u64 406]) w := by kernel_rfl
theorem asElemV (a p : Addr) (w : World) (ha : w.cell? a = some (.pointer (some p))) :
    (ReflectliteValue.method (ReflectliteValue.valueError "reflectlite.Value.Elem" 0) ReflectliteValue.elem #[rvPP a]).run Tryd.prog w
      = .ok (.agg #[.pointer (some ⟨17, 40, none⟩), .pointer (some p), .int .u64 406]) w := by
  rw [asMeth _ _ _ _ (asPartsPP a w)]
  simp [ReflectliteValue.elem, loadVar, isAgg, underlying, Tryd.underlying42, ha, Result.andThen, asElemOf, asMk]
theorem asPartsA (a : Addr) (w : World) : (ReflectliteValue.parts (.agg #[.pointer (some ⟨17, 40, none⟩), .pointer (some a), .int .u64 406])).run Tryd.prog w = .ok (some (40, a, 406)) w := by kernel_rfl
theorem asPartsB (a : Addr) (w : World) : (ReflectliteValue.parts (.agg #[.pointer (some ⟨17, 40, none⟩), .pointer (some a), .int .u64 150])).run Tryd.prog w = .ok (some (40, a, 150)) w := by kernel_rfl
theorem asDirect (w : World) : (Rtype.directlyAssignable 40 40).run Tryd.prog w = .ok true w := by kernel_rfl
theorem asSet (ta b e : Addr) (old : Value) (w : World) (hb : w.cell? b = some (.pointer (some e))) (ht : w.cell? ta = some old) (hf : w.frozen? ta = false) :
    (ReflectliteValue.set #[.agg #[.pointer (some ⟨17, 40, none⟩), .pointer (some ta), .int .u64 406], .agg #[.pointer (some ⟨17, 40, none⟩), .pointer (some b), .int .u64 150]]).run Tryd.prog w
      = .ok (.tuple #[]) (w.setCell ta (.pointer (some e))) := by
  have e1 : ∀ v x : Value, ReflectliteValue.set #[v, x] = (ReflectliteValue.parts v >>= fun p => ReflectliteValue.parts x >>= fun q => _) := fun _ _ => rfl
  rw [e1]
  simp only [Sem.run_bind, asPartsA, asPartsB, Result.andThen]
  simp [ReflectliteValue.flagAddr, loadVar, isAgg, underlying, Tryd.underlying40, hb, Result.andThen, asDirect, storeVar, Value.cells, storeCells, Addr.add]
  rw [run_store Tryd.prog w ta _ _ (by rfl)]
  simp [ht, hf]
end Go.Proofs.YtghccfgoiejajaaDoor
