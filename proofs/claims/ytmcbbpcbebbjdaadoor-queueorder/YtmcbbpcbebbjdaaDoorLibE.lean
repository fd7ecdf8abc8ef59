/- The program's listed errors: what the row's list of package-level variables gives a walk (each variable holds a pointer of its own to an errors.errorString), and errors.Is on two of them; no condition but that list. -/
import Derived.Test.YtmcbbpcbebbjdaaDoorRows
import Derived.WalkKit
import Derived.LaidEql
import Derived.Stop.Asserts
import Derived.Stop.LaidTwo
import Derived.RowKitTokens
import Derived.Outline
import Derived.LaidMore
namespace Go.Proofs.YtmcbbpcbebbjdaaDoor
open Go Go.RowKit

/-- The variable g holds a pointer to the error at a. -/
def Sent (w : World) (g : Nat) (a : Addr) : Prop := w.cell? ⟨g, 0, none⟩ = some (.iface 67 (.pointer (some a))) ∧ ∃ c t, w.heap[a.block]? = some (.cells c t (0, 0))

/-- The variables gs hold pointers to the errors at es, each another one. -/
structure Errs (w : World) (gs : List Nat) (es : List Addr) : Prop where
  len : es.length = gs.length
  nodup : es.Nodup
  each : ∀ (i : Nat) (g : Nat) (a : Addr), gs[i]? = some g → es[i]? = some a → Sent w g a

theorem Sent.below {w w' : World} {g : Nat} {a : Addr} (h : Sent w g a) (hb : Below w.heap.size w w') : Sent w' g a := by
  obtain ⟨h1, c, t, h2⟩ := h
  refine ⟨?_, c, t, ?_⟩
  · rw [hb.cell (World.block_lt_of_cell? w _ h1)]
    exact h1
  · rw [hb.block _ (Array.getElem?_eq_some_iff.1 h2).1]
    exact h2

theorem Errs.below {w w' : World} {gs : List Nat} {es : List Addr} (h : Errs w gs es) (hb : Below w.heap.size w w') : Errs w' gs es :=
  ⟨h.len, h.nodup, fun i g a hg ha => (h.each i g a hg ha).below hb⟩

theorem row_one (a : Addr) : MemPlace.row a 1 = [.cell a.block a.off] := by simp [MemPlace.row]

theorem sents_of_laid {P : Program} {W : World} {nm : String} {ti tp te ts : TypeId} {ms : Array (String × TypeId)} {f : Field}
    (hi : P.underlying ti = some (.interface ms)) (hrow : ∀ u, P.typeName? 3 u = some nm → u = tp)
    (hp : P.underlying tp = some (.pointer te)) (he : P.underlying te = some (.struct #[f])) (hft : f.type = ts) (hfo : f.offset = 0) (hs : P.underlying ts = some .string) (hc : P.cellsOf te = 1) (hcs : P.cellsOf ts = 1) :
    ∀ (L : List (String × DataW Unit × Nat)) (ps : List MemPlace), (∀ x ∈ L, P.globalNamed x.1 = some x.2.2 ∧ (P.globals[x.2.2]?).map (·.type) = some ti ∧ ∃ t, x.2.1 = .iface nm (.ptr (.agg [.lit (.string t)]))) →
      DataW.LaidVars P W (L.map fun x => (x.1, x.2.1)) ps →
      (∀ b off, MemPlace.cell b off ∈ ps → (∃ c t, W.heap[b]? = some (.cells c t (0, 0))) ∧ ∀ u v, W.cell? ⟨b, off, none⟩ = some (.iface u v) → Value.okWide P W .any 0 u v) →
      ∃ es : List Addr, es.length = L.length ∧ List.Sublist (es.map fun a => MemPlace.cell a.block a.off) ps ∧
        ∀ (i : Nat) (g : Nat) (a : Addr), (L.map fun x => x.2.2)[i]? = some g → es[i]? = some a → W.cell? ⟨g, 0, none⟩ = some (.iface tp (.pointer (some a))) ∧ ∃ c t, W.heap[a.block]? = some (.cells c t (0, 0)) := by
  intro L
  induction L with
  | nil =>
    intro ps _ _ _
    exact ⟨[], rfl, List.nil_sublist _, fun i g a h => by simp at h⟩
  | cons x L ih =>
    intro ps hL hv hrows
    obtain ⟨n, d, g0⟩ := x
    obtain ⟨hg0, ht0, text, hd⟩ := hL _ (List.mem_cons_self ..)
    obtain ⟨g, t, cs, fuel, p, q, hg, ht, hvar, htrod, hq, rfl⟩ := hv
    simp only at hg0 ht0 hd
    obtain rfl := Option.some.inj (hg0.symm.trans hg)
    obtain rfl := Option.some.inj (ht0.symm.trans ht)
    obtain ⟨es, h1, h2, h3⟩ := ih q (fun x hx => hL x (List.mem_cons_of_mem _ hx)) hq (fun b off hm => hrows b off (List.mem_append_right _ hm))
    obtain ⟨l0⟩ := cs
    have ok0 : ∀ u v, l0 = [.iface u v] → Value.okWide P W .any 0 u v := fun u v e => by
      subst e
      exact (hrows g0 0 (by simp [MemPlace.row])).2 u v (by simpa using World.var?_cell hg hvar 0)
    subst hd
    obtain ⟨a0, s0, rfl, hc0, hs0, hz0, rfl⟩ := errorString_of_trod hi hrow hp he hft hfo hs hc hcs htrod ok0
    refine ⟨a0 :: es, by simp [h1], ?_, ?_⟩
    · rw [List.map_cons, row_one a0, List.append_assoc]
      exact List.Sublist.trans (List.Sublist.cons_cons _ h2) (List.sublist_append_right _ _)
    · intro i g a hgi hai
      cases i with
      | zero =>
        simp only [List.map_cons, List.getElem?_cons_zero, Option.some.injEq] at hgi hai
        subst hgi hai
        refine ⟨by simpa using World.var?_cell hg hvar 0, ?_⟩
        exact (hrows a0.block a0.off (by simp [MemPlace.row])).1
      | succ i =>
        simp only [List.map_cons, List.getElem?_cons_succ] at hgi hai
        exact h3 i g a hgi hai

theorem nodup_of_places {es : List Addr} {ps : List MemPlace} (h : ps.Nodup) (hs : List.Sublist (es.map fun a => MemPlace.cell a.block a.off) ps) : es.Nodup := by
  have h2 := List.Nodup.sublist hs h
  clear h hs
  induction es with
  | nil => exact List.nodup_nil
  | cons a es ih =>
    rw [List.map_cons, List.nodup_cons] at h2
    rw [List.nodup_cons]
    exact ⟨fun hm => h2.1 (List.mem_map_of_mem (f := fun a : Addr => MemPlace.cell a.block a.off) hm), ih h2.2⟩

theorem cellsES : Tryd.prog.cellsOf 92 = 1 := by kernel_rfl
theorem cellsStr : Tryd.prog.cellsOf 9 = 1 := by kernel_rfl
theorem star : "*" ++ "errors.errorString" = "*errors.errorString" := by decide
theorem rowES (u : TypeId) (h : Tryd.prog.typeName? 3 u = some "*errors.errorString") : u = 67 :=
  typeName_ptr_named (nm := "errors.errorString") (by rw [star]; kernel_rfl) (by kernel_rfl) (by decide) u (by rw [star]; exact h)

/-- What the row's list gives. -/
theorem errs_of_laid (L : List (String × DataW Unit × Nat)) {W : World} (hL : ∀ x ∈ L, Tryd.prog.globalNamed x.1 = some x.2.2 ∧ (Tryd.prog.globals[x.2.2]?).map (·.type) = some 38 ∧ ∃ t, x.2.1 = .iface "*errors.errorString" (.ptr (.agg [.lit (.string t)])))
    (h : laidMet Tryd.prog (L.map fun x => (x.1, x.2.1)) W) : ∃ es, Errs W (L.map fun x => x.2.2) es := by
  obtain ⟨ps, hv, hnd, hrows⟩ := h
  obtain ⟨es, h1, h2, h3⟩ := sents_of_laid Tryd.underlying38 rowES Tryd.underlying67 Tryd.underlying92 rfl rfl Tryd.underlying9 cellsES cellsStr L ps hL hv hrows
  exact ⟨es, by rw [h1, List.length_map], nodup_of_places hnd h2, h3⟩

/-! errors.Is -/
theorem isTypeOf (v : Value) (w : World) : (Extern.ReflectliteType.typeOf #[.iface 67 v]).run Tryd.prog w = .ok (.iface 57 (.agg #[.pointer (some ⟨16, 67, none⟩)])) w := by kernel_rfl
theorem isComparable (w : World) : ((Extern.ReflectliteType.method fun t => do Extern.Rtype.noPackHeld "Comparable" t; (fun a => Value.bool a.comparable) <$> typeInfo t) #[.agg #[.pointer (some ⟨16, 67, none⟩)]]).run Tryd.prog w = .ok (.bool true) w := by kernel_rfl
theorem isMethodComparable (n : Nat) (v : Value) (w : World) : (Go.method (n + 1) 57 v "Comparable").run Tryd.prog w = .ok (41, v) w := by kernel_rfl
theorem isComp : (Tryd.prog.info? 67).map (·.comparable) = some true := by kernel_rfl
theorem isSize : (Tryd.prog.info? 92).map (·.size) = some 1 := by kernel_rfl
theorem noIsE (v : Value) (xT : TypeId) (w : World) : (Instr.typeAssert (.iface 67 v) xT 59 true).run Tryd.prog w = .ok (.tuple #[.nilIface, .bool false]) w := run_typeAssert_lacksB Tryd.underlying59 (by kernel_rfl) (by kernel_rfl) v xT w
theorem noUnwrapE (v : Value) (xT : TypeId) (w : World) : (Instr.typeAssert (.iface 67 v) xT 62 true).run Tryd.prog w = .ok (.tuple #[.nilIface, .bool false]) w := run_typeAssert_lacksB Tryd.underlying62 (by kernel_rfl) (by kernel_rfl) v xT w
theorem noUnwrapsE (v : Value) (xT : TypeId) (w : World) : (Instr.typeAssert (.iface 67 v) xT 64 true).run Tryd.prog w = .ok (.tuple #[.nilIface, .bool false]) w := run_typeAssert_lacksB Tryd.underlying64 (by kernel_rfl) (by kernel_rfl) v xT w

theorem is_same (a : Addr) (w : World) :
    Calls Tryd.prog 20 #[.iface 67 (.pointer (some a)), .iface 67 (.pointer (some a))] w fun e w' => e = .returned (.bool true) ∧ w' = w := by
  obtain ⟨i, hi, hcmp⟩ := Option.map_eq_some_iff.1 isComp
  obtain ⟨j, hj, hjs⟩ := Option.map_eq_some_iff.1 isSize
  have h8 := @run_callFunc_extern Tryd.prog 21 _ Extern.ReflectliteType.typeOf Tryd.func21 (by kernel_rfl) (by kernel_rfl) (by kernel_rfl) (by kernel_rfl)
  have h32 := @run_callFunc_extern Tryd.prog 41 _ (Extern.ReflectliteType.method fun t => do Extern.Rtype.noPackHeld "Comparable" t; pure (.bool (← typeInfo t).comparable)) Tryd.func41 (by kernel_rfl) (by kernel_rfl) (by kernel_rfl) (by kernel_rfl)
  have tT := isTypeOf
  have cT := isComparable
  have mR := isMethodComparable
  have heq := run_eql_iface_ptr_same (P := Tryd.prog) w a Tryd.underlying38 Tryd.underlying67 hi hcmp hj
  go_enter Tryd.func20, Tryd.ntmps20
  go_wp2
  refine wp_loop_rounds 1 ?_
  rw [rounds_succ]
  go_wp2
  go_ret
  exact ⟨rfl, rfl⟩

theorem is_other (a b : Addr) (ca cb : Array Value) (ta tb : TypeId) (w : World) (hne : a ≠ b) (ha : w.heap[a.block]? = some (.cells ca ta (0, 0))) (hb : w.heap[b.block]? = some (.cells cb tb (0, 0))) :
    Calls Tryd.prog 20 #[.iface 67 (.pointer (some a)), .iface 67 (.pointer (some b))] w fun e w' => e = .returned (.bool false) ∧ w' = w := by
  obtain ⟨i, hi, hcmp⟩ := Option.map_eq_some_iff.1 isComp
  obtain ⟨j, hj, hjs⟩ := Option.map_eq_some_iff.1 isSize
  have h8 := @run_callFunc_extern Tryd.prog 21 _ Extern.ReflectliteType.typeOf Tryd.func21 (by kernel_rfl) (by kernel_rfl) (by kernel_rfl) (by kernel_rfl)
  have h32 := @run_callFunc_extern Tryd.prog 41 _ (Extern.ReflectliteType.method fun t => do Extern.Rtype.noPackHeld "Comparable" t; pure (.bool (← typeInfo t).comparable)) Tryd.func41 (by kernel_rfl) (by kernel_rfl) (by kernel_rfl) (by kernel_rfl)
  have tT := isTypeOf
  have cT := isComparable
  have mR := isMethodComparable
  have nE := noIsE
  have uE := noUnwrapE
  have vE := noUnwrapsE
  have heq := run_eql_iface_ptr_other (P := Tryd.prog) w Tryd.underlying38 Tryd.underlying67 hi hcmp hj (by rw [hjs]; decide) hne ha hb
  go_enter Tryd.func20, Tryd.ntmps20
  go_wp2
  refine wp_loop_rounds 1 ?_
  rw [rounds_succ]
  go_wp2
  go_ret
  exact ⟨rfl, rfl⟩

/-- The errors by their numbers: 0 is none. -/
def erv (es : List Addr) : Nat → Value
  | 0 => .nilIface
  | k + 1 => .iface 67 (.pointer (some (es.getD k ⟨0, 0, none⟩)))

/-- The sixteen variables, in api's order. -/
def gerrs : List Nat := [0, 1, 2, 3, 4, 5, 6, 7, 8, 9, 10, 11, 12, 13, 14, 15]

/-- ErrArg, ErrShort, ErrBytes, ErrBig. -/
structure E4 (w : World) (es : List Addr) : Prop where
  arg : w.cell? ⟨0, 0, none⟩ = some (erv es 1)
  short : w.cell? ⟨1, 0, none⟩ = some (erv es 2)
  bytes : w.cell? ⟨2, 0, none⟩ = some (erv es 3)
  big : w.cell? ⟨3, 0, none⟩ = some (erv es 4)

theorem E4.below {w w' : World} {es : List Addr} (h : E4 w es) (hb : Below w.heap.size w w') : E4 w' es :=
  ⟨by rw [hb.cell (World.block_lt_of_cell? w _ h.arg)]; exact h.arg, by rw [hb.cell (World.block_lt_of_cell? w _ h.short)]; exact h.short,
   by rw [hb.cell (World.block_lt_of_cell? w _ h.bytes)]; exact h.bytes, by rw [hb.cell (World.block_lt_of_cell? w _ h.big)]; exact h.big⟩

theorem E4.of {w : World} {gs : List Nat} {es : List Addr} (h : Errs w gs es) (h4 : gs.take 4 = gerrs.take 4) : E4 w es := by
  have each : ∀ i g, i < 4 → gerrs[i]? = some g → w.cell? ⟨g, 0, none⟩ = some (erv es (i + 1)) := fun i g hi hg => by
    have hg' : gs[i]? = some g := by
      rw [← hg, ← List.getElem?_take_of_lt hi, h4, List.getElem?_take_of_lt hi]
    have hl : i < es.length := by
      rw [h.len]
      rcases Nat.lt_or_ge i gs.length with h' | h'
      · exact h'
      · rw [List.getElem?_eq_none h'] at hg'; cases hg'
    have := (h.each i g _ hg' (List.getElem?_eq_getElem hl)).1
    rw [this, erv, List.getD, List.getElem?_eq_getElem hl]
    rfl
  exact ⟨each 0 _ (by decide) rfl, each 1 _ (by decide) rfl, each 2 _ (by decide) rfl, each 3 _ (by decide) rfl⟩


/-- The sixteen listed variables: name, datum, number. -/
def L16 : List (String × DataW Unit × Nat) := [("tableau/api.ErrArg", Rows.laid_tableau_api_ErrArg, 0), ("tableau/api.ErrShort", Rows.laid_tableau_api_ErrShort, 1), ("tableau/api.ErrBytes", Rows.laid_tableau_api_ErrBytes, 2), ("tableau/api.ErrBig", Rows.laid_tableau_api_ErrBig, 3), ("tableau/api.ErrObject", Rows.laid_tableau_api_ErrObject, 4), ("tableau/api.ErrMethod", Rows.laid_tableau_api_ErrMethod, 5), ("tableau/api.ErrFormat", Rows.laid_tableau_api_ErrFormat, 6), ("tableau/api.ErrStride", Rows.laid_tableau_api_ErrStride, 7), ("tableau/api.ErrFile", Rows.laid_tableau_api_ErrFile, 8), ("tableau/api.ErrRole", Rows.laid_tableau_api_ErrRole, 9), ("tableau/api.ErrPlace", Rows.laid_tableau_api_ErrPlace, 10), ("tableau/api.ErrState", Rows.laid_tableau_api_ErrState, 11), ("tableau/api.ErrSerial", Rows.laid_tableau_api_ErrSerial, 12), ("tableau/api.ErrFull", Rows.laid_tableau_api_ErrFull, 13), ("tableau/api.ErrGone", Rows.laid_tableau_api_ErrGone, 14), ("tableau/api.ErrSheet", Rows.laid_tableau_api_ErrSheet, 15)]
theorem laid16 : ∀ x ∈ L16, Tryd.prog.globalNamed x.1 = some x.2.2 ∧ (Tryd.prog.globals[x.2.2]?).map (·.type) = some 38 ∧ ∃ t, x.2.1 = .iface "*errors.errorString" (.ptr (.agg [.lit (.string t)])) := by
  intro x hx
  simp only [L16, List.mem_cons, List.not_mem_nil, or_false] at hx
  rcases hx with rfl | rfl | rfl | rfl | rfl | rfl | rfl | rfl | rfl | rfl | rfl | rfl | rfl | rfl | rfl | rfl
  all_goals exact ⟨by kernel_rfl, by kernel_rfl, _, rfl⟩

/-- All sixteen. -/
theorem errs16 {W : World} (h : laidMetH Tryd.prog (L16.map fun x => (x.1, x.2.1)) W) : ∃ es, Errs W gerrs es := by
  rw [MakeChecks.laidMetH_plain _ _ _ (by kernel_rfl)] at h
  exact errs_of_laid L16 laid16 h
/-- The first four. -/
theorem errs4 {W : World} (h : laidMetH Tryd.prog ((L16.take 4).map fun x => (x.1, x.2.1)) W) : ∃ es, Errs W (gerrs.take 4) es := by
  rw [MakeChecks.laidMetH_plain _ _ _ (by kernel_rfl)] at h
  exact errs_of_laid (L16.take 4) (fun x hx => laid16 x (List.mem_of_mem_take hx)) h

end Go.Proofs.YtmcbbpcbebbjdaaDoor
