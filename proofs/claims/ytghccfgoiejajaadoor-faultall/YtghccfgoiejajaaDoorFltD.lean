/- errors.As: what errors.as does down a chain; then errors.As itself. -/
import Derived.Test.YtghccfgoiejajaaDoorFltC
namespace Go.Proofs.YtghccfgoiejajaaDoor
open Go Go.RowKit Go.Extern

theorem noAs (t : TypeId) (ht : t = 40 ∨ t = 48 ∨ t = 68) (v : Value) (xT : TypeId) (w : World) : (Instr.typeAssert (.iface t v) xT 84 true).run Tryd.prog w = .ok (.tuple #[.nilIface, .bool false]) w := by
  rcases ht with rfl | rfl | rfl <;> exact run_typeAssert_lacksB Tryd.underlying84 (by kernel_rfl) (by kernel_rfl) v xT w

/-- How errors.as ends: with a fault, the target's variable holds its pointer; without one, nothing that was there has turned. -/
def AsEnds (w : World) (F : Option Nat) (t : Addr) (e : Ending) (w' : World) : Prop :=
  match F with
  | some b => e = .returned (.bool true) ∧ Below t.block w w' ∧ w'.cell? t = some (.pointer (some ⟨b, 0, none⟩))
  | none => e = .returned (.bool false) ∧ Below w.heap.size w w'

/-- The target's variable t, and the variable n that reflectlite laid for its pointer. -/
structure Hit (w : World) (t n : Addr) (old : Value) : Prop where
  hn : w.cell? n = some (.pointer (some t))
  ht : w.cell? t = some old
  hf : w.frozen? t = false

/-- errors.as' own copy of the target's Value. -/
abbrev wT (w : World) (n : Addr) : World := w.alloc (.cells #[.pointer (some ⟨17, 42, none⟩), .pointer (some n), .int .u64 150] 61)

theorem Hit.elem {w : World} {t n : Addr} {old : Value} (h : Hit w t n old) :
    (ReflectliteValue.method (ReflectliteValue.valueError "reflectlite.Value.Elem" 0) ReflectliteValue.elem #[rvPP n]).run Tryd.prog (wT w n)
      = .ok (.agg #[.pointer (some ⟨17, 40, none⟩), .pointer (some t), .int .u64 406]) (wT w n) :=
  asElemV n t _ (by rw [World.cell?_alloc_lt _ _ n (World.block_lt_of_cell? w _ h.hn)]; exact h.hn)

theorem Hit.set {w : World} {t n : Addr} {old : Value} (h : Hit w t n old) (b : Nat) :
    (ReflectliteValue.set #[.agg #[.pointer (some ⟨17, 40, none⟩), .pointer (some t), .int .u64 406], .agg #[.pointer (some ⟨17, 40, none⟩), .pointer (some ⟨w.heap.size + 1, 0, none⟩), .int .u64 150]]).run Tryd.prog ((wT w n).alloc (.cells #[.pointer (some ⟨b, 0, none⟩)] 40))
      = .ok (.tuple #[]) (((wT w n).alloc (.cells #[.pointer (some ⟨b, 0, none⟩)] 40)).setCell t (.pointer (some ⟨b, 0, none⟩))) := by
  have hlt := World.block_lt_of_cell? w _ h.ht
  refine asSet t ⟨w.heap.size + 1, 0, none⟩ ⟨b, 0, none⟩ old _ ?_ ?_ ?_
  · rw [World.cell?_alloc_at _ _ _ _ (by simp)]; rfl
  · rw [World.cell?_alloc_lt _ _ t (by simp; omega), World.cell?_alloc_lt _ _ t hlt]; exact h.ht
  · rw [World.frozen?_alloc_old _ _ t (by simp; omega), World.frozen?_alloc_old _ _ t (Nat.ne_of_lt hlt)]; exact h.hf

theorem Hit.ends {w : World} {t n : Addr} {old : Value} (h : Hit w t n old) (b : Nat) :
    AsEnds w (some b) t (.returned (.bool true)) (((wT w n).alloc (.cells #[.pointer (some ⟨b, 0, none⟩)] 40)).setCell t (.pointer (some ⟨b, 0, none⟩))) := by
  have hlt := World.block_lt_of_cell? w _ h.ht
  refine ⟨rfl, ?_, ?_⟩
  · exact (((Below.refl t.block w).alloc (by omega) _).alloc (by simp; omega) _).setCell (p := t) (Nat.le_refl _) _
  · have hc : ((wT w n).alloc (.cells #[.pointer (some ⟨b, 0, none⟩)] 40)).cell? t = some old := by
      rw [World.cell?_alloc_lt _ _ t (by simp; omega), World.cell?_alloc_lt _ _ t hlt]; exact h.ht
    exact World.cell?_setCell_same _ _ _ hc

set_option maxRecDepth 100000 in
set_option maxHeartbeats 2000000 in
theorem as_chain (w : World) (L v : Value) (F : Option Nat) (t n : Addr) (old : Value) (h : Ch w L v F) (hn : w.cell? n = some (.pointer (some t))) (ht : w.cell? t = some old) (hf : w.frozen? t = false) :
    Calls Tryd.prog 31 #[v, .iface 42 (.pointer (some t)), rvPP n, rtP] w (AsEnds w F t) := by
  have h26 := @run_callFunc_extern Tryd.prog 26 _ ReflectliteType.typeOf Tryd.func26 (by kernel_rfl) (by kernel_rfl) (by kernel_rfl) (by kernel_rfl)
  have h63 := @run_callFunc_extern Tryd.prog 63 _ (ReflectliteType.relation "AssignableTo" ReflectliteType.assignableTo) Tryd.func63 (by kernel_rfl) (by kernel_rfl) (by kernel_rfl) (by kernel_rfl)
  have h28 := @run_callFunc_extern Tryd.prog 28 _ (fun args => ReflectliteValue.unpack (args.getD 0 (.tuple #[]))) Tryd.func28 (by kernel_rfl) (by kernel_rfl) (by kernel_rfl) (by kernel_rfl)
  have h32 := @run_callFunc_extern Tryd.prog 32 _ (ReflectliteValue.method (ReflectliteValue.valueError "reflectlite.Value.Elem" 0) ReflectliteValue.elem) Tryd.func32 (by kernel_rfl) (by kernel_rfl) (by kernel_rfl) (by kernel_rfl)
  have h33 := @run_callFunc_extern Tryd.prog 33 _ ReflectliteValue.set Tryd.func33 (by kernel_rfl) (by kernel_rfl) (by kernel_rfl) (by kernel_rfl)
  have tF := asTypeOf 40 (.inl rfl)
  have tW := asTypeOf 48 (.inr (.inl rfl))
  have tE := asTypeOf 68 (.inr (.inr rfl))
  have mA := asMethodAssignable
  have aF := asAssignableF
  have aW := asAssignableW
  have aE := asAssignableE
  have v25 := asValueOfP
  have nE := noAs 68 (.inr (.inr rfl))
  have uE := noUnwrapE
  have vE := noUnwrapsE
  have nF := noAs 40 (.inl rfl)
  have uF := unwrapF
  have nW := noAs 48 (.inr (.inl rfl))
  have uW := unwrapW
  have mF := mUnwrapF
  have mW := mUnwrapW
  have HN : Hid (w.cell? n = some (.pointer (some t))) := hn
  have HT : Hid (w.cell? t = some old) := ht
  have HF : Hid (w.frozen? t = false) := hf
  clear hn ht hf
  go_enter Tryd.func31, Tryd.ntmps31
  go_wp2
  go_loop [0] (fun v => Ch w L v F) (fun v => rank v)
  case atStart => exact h
  case round =>
    cases hrel with
    | leaf a hL =>
      clear hL h
      go_wp2
      go_ret
      exact ⟨rfl, (Below.refl _ _).alloc (Nat.le_refl _) _⟩
    | wrap b s v F hb hr hv =>
      have c1 : (w.alloc (.cells #[.pointer (some ⟨17, 42, none⟩), .pointer (some n), .int .u64 150] 61)).cell? ⟨b, 1, none⟩ = some v := by
        rw [World.cell?_alloc_lt _ _ ⟨b, 1, none⟩ (Array.getElem?_eq_some_iff.1 hb).1, World.cell?, hb]; rfl
      obtain ⟨t, q, rfl⟩ := hv.iface
      have HV : Hid (Ch w L (.iface t q) F) := hv
      have HM : Hid (rank (.iface t q) < b + 1) := hr
      clear hv hr hb h
      go_wp2
      go_round
      case rel => exact HV.out
      case measure => exact HM.out
    | fault b o c s v F hb hr hv =>
      clear hb hr hv h
      have HH : Hid (Hit w t n old) := ⟨HN.out, HT.out, HF.out⟩
      have el := HH.out.elem
      have st := HH.out.set b
      go_wp2
      go_ret
      exact HH.out.ends b
    | none b o c s hb hL =>
      clear hb hL h
      have HH : Hid (Hit w t n old) := ⟨HN.out, HT.out, HF.out⟩
      have el := HH.out.elem
      have st := HH.out.set b
      go_wp2
      go_ret
      exact HH.out.ends b
end Go.Proofs.YtghccfgoiejajaaDoor
