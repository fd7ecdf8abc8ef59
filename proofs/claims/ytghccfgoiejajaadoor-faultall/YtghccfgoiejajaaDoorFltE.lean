/- errors.As, and fault.Of. -/
import Derived.Test.YtghccfgoiejajaaDoorFltD
namespace Go.Proofs.YtghccfgoiejajaaDoor
open Go Go.RowKit Go.Extern

theorem AsEnds.of {w w2 w' : World} {F : Option Nat} {t : Addr} {e : Ending} (h : AsEnds w2 F t e w') (hb : Below w.heap.size w w2) (ht : t.block ≤ w.heap.size) : AsEnds w F t e w' := by
  cases F with
  | none => exact ⟨h.1, hb.trans (h.2.mono hb.size)⟩
  | some b => exact ⟨h.1, (hb.mono ht).trans h.2.1, h.2.2⟩

theorem AsEnds.ret {w w' : World} {F : Option Nat} {t : Addr} {e : Ending} (h : AsEnds w F t e w') : e = .returned (.bool F.isSome) := by
  cases F <;> exact h.1

/-- The worlds ahead of errors.as: the pointer's variable, the Value's variable. -/
abbrev wV (w : World) (t : Addr) : World := w.alloc (.cells #[.pointer (some t)] 42)
abbrev wU (w : World) (t : Addr) : World := (wV w t).alloc (.cells #[.pointer (some ⟨17, 42, none⟩), .pointer (some ⟨w.heap.size, 0, none⟩), .int .u64 150] 61)

set_option maxRecDepth 100000 in
set_option maxHeartbeats 2000000 in
theorem As_chain (w : World) (es : List Addr) (L v : Value) (F : Option Nat) (t : Addr) (old : Value) (h : Ch w L v F) (ha : All w es) (ht : w.cell? t = some old) (hf : w.frozen? t = false) :
    Calls Tryd.prog 21 #[v, .iface 42 (.pointer (some t))] w (AsEnds w F t) := by
  have h28 := @run_callFunc_extern Tryd.prog 28 _ (fun args => ReflectliteValue.unpack (args.getD 0 (.tuple #[]))) Tryd.func28 (by kernel_rfl) (by kernel_rfl) (by kernel_rfl) (by kernel_rfl)
  have h29 := @run_callFunc_extern Tryd.prog 29 _ (ReflectliteValue.methodAny (ReflectliteValue.valueError "reflectlite.Value.Type" 0) (fun t _ _ _ => ReflectliteType.toType t)) Tryd.func29 (by kernel_rfl) (by kernel_rfl) (by kernel_rfl) (by kernel_rfl)
  have h30 := @run_callFunc_extern Tryd.prog 30 _ (ReflectliteValue.method (ReflectliteValue.valueError "reflectlite.Value.IsNil" 0) ReflectliteValue.isNil) Tryd.func30 (by kernel_rfl) (by kernel_rfl) (by kernel_rfl) (by kernel_rfl)
  have h48 := @run_callFunc_extern Tryd.prog 48 _ (ReflectliteType.abiMethod fun t => do pure (.int .u8 (← Rtype.kind t))) Tryd.func48 (by kernel_rfl) (by kernel_rfl) (by kernel_rfl) (by kernel_rfl)
  have h65 := @run_callFunc_extern Tryd.prog 65 _ (ReflectliteType.method ReflectliteType.elem) Tryd.func65 (by kernel_rfl) (by kernel_rfl) (by kernel_rfl) (by kernel_rfl)
  have h66 := @run_callFunc_extern Tryd.prog 66 _ (ReflectliteType.relation "Implements" ReflectliteType.implements_) Tryd.func66 (by kernel_rfl) (by kernel_rfl) (by kernel_rfl) (by kernel_rfl)
  have f6 := asValueOf
  have f7 := asType
  have mK := asMethodKind
  have mE := asMethodElem
  have mI := asMethodImplements
  have k1 := asKindPP
  have k2 := asKindP
  have e1 := asElem
  have i1 := asImplements
  have hlt : t.block < w.heap.size := World.block_lt_of_cell? w _ ht
  have bV : Below w.heap.size w (wU w t) := ((Below.refl _ _).alloc (Nat.le_refl _) _).alloc (by simp) _
  have hg := (ha.below bV).type
  have n8 := asIsNil ⟨w.heap.size, 0, none⟩ t (wU w t) (by rw [World.cell?_alloc_lt _ _ _ (by simp), World.cell?_alloc_at _ _ _ _ (by simp)]; rfl)
  have HC : Hid (∀ _ : Unit, Calls Tryd.prog 31 #[v, .iface 42 (.pointer (some t)), rvPP ⟨w.heap.size, 0, none⟩, rtP] (wU w t) (AsEnds (wU w t) F t)) := fun _ =>
    as_chain (wU w t) L v F t ⟨w.heap.size, 0, none⟩ old (h.stays bV) (by rw [World.cell?_alloc_lt _ _ _ (by simp), World.cell?_alloc_at _ _ _ _ (by simp)]; rfl)
      (by rw [World.cell?_alloc_lt _ _ t (by simp; omega), World.cell?_alloc_lt _ _ t hlt]; exact ht)
      (by rw [World.frozen?_alloc_old _ _ t (by simp; omega), World.frozen?_alloc_old _ _ t (Nat.ne_of_lt hlt)]; exact hf)
  have HB : Hid (Below w.heap.size w (wU w t)) := bV
  have HL : Hid (t.block ≤ w.heap.size) := Nat.le_of_lt hlt
  obtain ⟨tv, q, rfl⟩ := h.iface
  clear h ha ht hf hlt bV
  go_enter Tryd.func21, Tryd.ntmps21
  go_wp2_with (go_at_call 31; refine (HC.out ()).mono ?_; rintro e w' he; obtain rfl := he.ret; have HE : Hid (AsEnds w F t (.returned (.bool F.isSome)) w') := AsEnds.of he HB.out HL.out; clear he)
  go_ret
  exact HE.out

/-- What Of hands back. -/
def ofRet (o c : Int) (s : ByteArray) (y : Value) (ok : Bool) : Value := .tuple #[.agg #[.int .i64 o, .int .i64 c, .string s, y], .bool ok]

/-- The world with the variable of Of's fault. -/
abbrev wP (w : World) : World := w.alloc (.cells #[.pointer none] 40)
theorem wP_below (w : World) : Below w.heap.size w (wP w) := (Below.refl _ _).alloc (Nat.le_refl _) _
theorem wP_cell (w : World) : (wP w).cell? ⟨w.heap.size, 0, none⟩ = some (.pointer none) := by rw [World.cell?_alloc_at _ _ _ _ rfl]; rfl
theorem wP_frozen (w : World) : (wP w).frozen? ⟨w.heap.size, 0, none⟩ = false := by simp [wP]

theorem As_var (w : World) (es : List Addr) (L v : Value) (F : Option Nat) (h : Ch w L v F) (ha : All w es) :
    Calls Tryd.prog 21 #[v, .iface 42 (.pointer (some ⟨w.heap.size, 0, none⟩))] (wP w) (AsEnds (wP w) F ⟨w.heap.size, 0, none⟩) :=
  As_chain (wP w) es L v F ⟨w.heap.size, 0, none⟩ (.pointer none) (h.stays (wP_below w)) (ha.below (wP_below w)) (wP_cell w) (wP_frozen w)

end Go.Proofs.YtghccfgoiejajaaDoor
