/- The program's listed errors with their words, and the handle of the type error, out of a row's list: the handle first, then the sixteen errors. -/
import Derived.Test.YtghccfgoiejajaaDoorLibE
import Derived.LaidHandle
import Derived.LaidSub
namespace Go.Proofs.YtghccfgoiejajaaDoor
open Go Go.RowKit

/-- The words of the sixteen errors, in api's order. -/
def words : List (List UInt8) := ["argument".toUTF8.data.toList, "short".toUTF8.data.toList, "bytes".toUTF8.data.toList, "big".toUTF8.data.toList, "object".toUTF8.data.toList, "method".toUTF8.data.toList, "format".toUTF8.data.toList, "stride".toUTF8.data.toList, "file".toUTF8.data.toList, "role".toUTF8.data.toList, "place".toUTF8.data.toList, "state".toUTF8.data.toList, "serial".toUTF8.data.toList, "full".toUTF8.data.toList, "gone".toUTF8.data.toList, "sheet".toUTF8.data.toList]

/-- Each of the errors at es says its words. -/
def Says (w : World) (es : List Addr) (ts : List (List UInt8)) : Prop := ∀ (i : Nat) (a : Addr) (t : List UInt8), es[i]? = some a → ts[i]? = some t → w.cell? a = some (.string ⟨t.toArray⟩)

theorem Says.below {w w' : World} {es : List Addr} {ts : List (List UInt8)} (h : Says w es ts) (hb : Below w.heap.size w w') : Says w' es ts := fun i a t ha ht => by
  have e := h i a t ha ht
  rw [hb.cell (World.block_lt_of_cell? w _ e)]
  exact e

theorem said_of_laid {P : Program} {W : World} {nm : String} {ti tp te ts : TypeId} {ms : Array (String × TypeId)} {f : Field}
    (hi : P.underlying ti = some (.interface ms)) (hrow : ∀ u, P.typeName? 3 u = some nm → u = tp)
    (hp : P.underlying tp = some (.pointer te)) (he : P.underlying te = some (.struct #[f])) (hft : f.type = ts) (hfo : f.offset = 0) (hs : P.underlying ts = some .string) (hc : P.cellsOf te = 1) (hcs : P.cellsOf ts = 1) :
    ∀ (L : List (String × DataW Unit × Nat)) (T : List (List UInt8)) (ps : List MemPlace), L.length = T.length → (∀ (i : Nat) x t, L[i]? = some x → T[i]? = some t → P.globalNamed x.1 = some x.2.2 ∧ (P.globals[x.2.2]?).map (·.type) = some ti ∧ x.2.1 = .iface nm (.ptr (.agg [.lit (.string t)]))) →
      DataW.LaidVars P W (L.map fun x => (x.1, x.2.1)) ps →
      (∀ b off, MemPlace.cell b off ∈ ps → (∃ c t, W.heap[b]? = some (.cells c t (0, 0))) ∧ ∀ u v, W.cell? ⟨b, off, none⟩ = some (.iface u v) → Value.okWide P W .any 0 u v) →
      ∃ es : List Addr, es.length = L.length ∧ List.Sublist (es.map fun a => MemPlace.cell a.block a.off) ps ∧
        (∀ (i : Nat) (g : Nat) (a : Addr), (L.map fun x => x.2.2)[i]? = some g → es[i]? = some a → W.cell? ⟨g, 0, none⟩ = some (.iface tp (.pointer (some a))) ∧ ∃ c t, W.heap[a.block]? = some (.cells c t (0, 0))) ∧ Says W es T := by
  intro L
  induction L with
  | nil =>
    intro T ps hl _ _ _
    exact ⟨[], rfl, List.nil_sublist _, fun i g a h => by simp at h, fun i a t h => by simp at h⟩
  | cons x L ih =>
    intro T ps hl hL hv hrows
    obtain ⟨n, d, g0⟩ := x
    obtain _ | ⟨text, T⟩ := T
    · cases hl
    obtain ⟨hg0, ht0, hd⟩ := hL 0 _ _ rfl rfl
    obtain ⟨g, t, cs, fuel, p, q, hg, ht, hvar, htrod, hq, rfl⟩ := hv
    simp only at hg0 ht0 hd
    obtain rfl := Option.some.inj (hg0.symm.trans hg)
    obtain rfl := Option.some.inj (ht0.symm.trans ht)
    obtain ⟨es, h1, h2, h3, h4⟩ := ih T q (Nat.succ.inj hl) (fun i x t hx ht => hL (i + 1) x t hx ht) hq (fun b off hm => hrows b off (List.mem_append_right _ hm))
    obtain ⟨l0⟩ := cs
    have ok0 : ∀ u v, l0 = [.iface u v] → Value.okWide P W .any 0 u v := fun u v e => by
      subst e
      exact (hrows g0 0 (by simp [MemPlace.row])).2 u v (by simpa using World.var?_cell hg hvar 0)
    subst hd
    obtain ⟨a0, s0, rfl, hc0, hs0, hz0, rfl⟩ := errorString_of_trod hi hrow hp he hft hfo hs hc hcs htrod ok0
    refine ⟨a0 :: es, by simp [h1], ?_, ?_, ?_⟩
    · rw [List.map_cons, row_one a0, List.append_assoc]
      exact List.Sublist.trans (List.Sublist.cons_cons _ h2) (List.sublist_append_right _ _)
    · intro i g a hgi hai
      cases i with
      | zero =>
        simp only [List.map_cons, List.getElem?_cons_zero, Option.some.injEq] at hgi hai
        subst hgi hai
        refine ⟨by simpa using World.var?_cell hg hvar 0, ?_⟩
        exact (hrows a0.block a0.off (by simp [MemPlace.row])).1
      | succ i =>
        simp only [List.map_cons, List.getElem?_cons_succ] at hgi hai
        exact h3 i g a hgi hai
    · intro i a t hai hti
      cases i with
      | zero =>
        simp only [List.getElem?_cons_zero, Option.some.injEq] at hai hti
        subst hai hti
        rw [hc0, ← hs0]
      | succ i =>
        simp only [List.getElem?_cons_succ] at hai hti
        exact h4 i a t hai hti

/-- The sixteen errors, and their words. -/
structure All (w : World) (es : List Addr) : Prop where
  errs : Errs w gerrs es
  says : Says w es words
  type : w.cell? ⟨16, 0, none⟩ = some (.iface 72 (.agg #[.pointer (some ⟨17, 24, none⟩)]))

theorem All.below {w w' : World} {es : List Addr} (h : All w es) (hb : Below w.heap.size w w') : All w' es :=
  ⟨h.errs.below hb, h.says.below hb, by rw [hb.cell (World.block_lt_of_cell? w _ h.type)]; exact h.type⟩

theorem laidT : ∀ (i : Nat) x t, L16[i]? = some x → words[i]? = some t → Tryd.prog.globalNamed x.1 = some x.2.2 ∧ (Tryd.prog.globals[x.2.2]?).map (·.type) = some 24 ∧ x.2.1 = .iface "*errors.errorString" (.ptr (.agg [.lit (.string t)])) := by
  intro i x t hx ht
  have hm := laid16 x (List.mem_of_getElem? hx)
  refine ⟨hm.1, hm.2.1, ?_⟩
  have hi : i < 16 := by
    rcases Nat.lt_or_ge i 16 with h | h
    · exact h
    · rw [List.getElem?_eq_none (by exact h)] at hx; cases hx
  have := i
  match i, hi with
  | 0, _ | 1, _ | 2, _ | 3, _ | 4, _ | 5, _ | 6, _ | 7, _ | 8, _ | 9, _ | 10, _ | 11, _ | 12, _ | 13, _ | 14, _ | 15, _ =>
    obtain rfl := Option.some.inj hx
    obtain rfl := Option.some.inj ht
    rfl

theorem errorTypeG : Tryd.prog.globalNamed "errors.errorType" = some 16 := by kernel_rfl
theorem rtypeCut : (Tryd.prog.cutTypes.find? (·.1 == "internal/reflectlite.rtype")).map (·.2) = some 72 := by kernel_rfl
theorem errorRow : ((List.range Tryd.prog.types.size).filter fun t => Tryd.prog.rowNamed t [101, 114, 114, 111, 114]) = [24] := by kernel_rfl
theorem errorHandle : typeHandle Tryd.prog 24 = .pointer (some ⟨17, 24, none⟩) := by kernel_rfl

/-- The row's list: the handle, then the sixteen. -/
theorem all17 {W : World} (h : laidMetH Tryd.prog (("errors.errorType", Rows.laid_errors_errorType) :: L16.map fun x => (x.1, x.2.1)) W) : ∃ es, All W es := by
  have h' : laidMet Tryd.prog (L16.map fun x => (x.1, x.2.1)) W ∧ handlesMet Tryd.prog [("errors.errorType", Rows.laid_errors_errorType)] W := h
  obtain ⟨⟨ps, hv, hnd, hrows⟩, hh⟩ := h'
  obtain ⟨es, h1, h2, h3, h4⟩ := said_of_laid Tryd.underlying24 rowES Tryd.underlying68 Tryd.underlying70 rfl rfl Tryd.underlying9 cellsES cellsStr L16 words ps rfl laidT hv hrows
  refine ⟨es, ⟨h1, nodup_of_places hnd h2, h3⟩, h4, ?_⟩
  obtain ⟨name, u, ty, e1, e2, e3, e4, e5⟩ := hh _ (List.mem_singleton.2 rfl)
  have en : name = [101, 114, 114, 111, 114] := (Option.some.inj e1).symm
  subst en
  obtain rfl := Option.some.inj (rtypeCut.symm.trans e2)
  have hm : ty ∈ (List.range Tryd.prog.types.size).filter fun t => Tryd.prog.rowNamed t [101, 114, 114, 111, 114] := List.mem_filter.2 ⟨List.mem_range.2 e3, e4⟩
  rw [errorRow] at hm
  obtain rfl := List.mem_singleton.1 hm
  rw [errorHandle] at e5
  simpa using World.var?_cell errorTypeG e5 0
end Go.Proofs.YtghccfgoiejajaaDoor
