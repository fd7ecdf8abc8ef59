/- Lemmas that the proof leans on. -/
import Derived.Test.YtpbgbpcdohdecaaGreatDoorRows
import Derived.Stop.Asserts
import Derived.Stop.LaidTwo
import Derived.LaidMore
import Derived.LaidSub
import Derived.Deep.AppendSrc
import Derived.Lib.SlBytesRow
import Derived.Deep.RegionHeldLaw
import Derived.Lib.SmallJoins
namespace Go.Proofs.YtpbgbpcdohdecaaGreatDoor
open Go Go.RowKit
section
def Sent (w : World) (g : Nat) (a : Addr) : Prop := w.cell? ⟨g, 0, none⟩ = some (.iface 392 (.pointer (some a))) ∧ ∃ c t, w.heap[a.block]? = some (.cells c t (0, 0))
structure Errs (w : World) (gs : List Nat) (es : List Addr) : Prop where
 len : es.length = gs.length
 nodup : es.Nodup
 each : ∀ (i : Nat) (g : Nat) (a : Addr), gs[i]? = some g → es[i]? = some a → Sent w g a
theorem Sent.below {w w' : World} {g : Nat} {a : Addr} (h : Sent w g a) (hb : Below w.heap.size w w') : Sent w' g a := by
 obtain ⟨h1, c, t, h2⟩ := h
 refine ⟨?_, c, t, ?_⟩
 ·rw [hb.cell (World.block_lt_of_cell? w _ h1)]
  exact h1
 ·rw [hb.block _ (Array.getElem?_eq_some_iff.1 h2).1]
  exact h2
theorem Errs.below {w w' : World} {gs : List Nat} {es : List Addr} (h : Errs w gs es) (hb : Below w.heap.size w w') : Errs w' gs es :=
 ⟨h.len, h.nodup, fun i g a hg ha => (h.each i g a hg ha).below hb⟩
theorem row_one (a : Addr) : MemPlace.row a 1 = [.cell a.block a.off] := by simp [MemPlace.row]
theorem nodup_of_places {es : List Addr} {ps : List MemPlace} (h : ps.Nodup) (hs : List.Sublist (es.map fun a => MemPlace.cell a.block a.off) ps) : es.Nodup := by
 have h2 := List.Nodup.sublist hs h
 clear h hs
 induction es with
 | nil => exact List.nodup_nil
 | cons a es ih =>
  rw [List.map_cons, List.nodup_cons] at h2
  rw [List.nodup_cons]
  exact ⟨fun hm => h2.1 (List.mem_map_of_mem (f := fun a : Addr => MemPlace.cell a.block a.off) hm), ih h2.2⟩
theorem cellsES : Tryz.prog.cellsOf 411 = 1 := by kernel_rfl
theorem cellsStr : Tryz.prog.cellsOf 9 = 1 := by kernel_rfl
theorem star : "*" ++ "errors.errorString" = "*errors.errorString" := by decide
theorem rowES (u : TypeId) (h : Tryz.prog.typeName? 3 u = some "*errors.errorString") : u = 392 :=
 typeName_ptr_named (nm := "errors.errorString") (by rw [star]; kernel_rfl) (by kernel_rfl) (by decide) u (by rw [star]; exact h)
theorem isTypeOf (v : Value) (w : World) : (Extern.ReflectliteType.typeOf #[.iface 392 v]).run Tryz.prog w = .ok (.iface 223 (.agg #[.pointer (some ⟨19, 392, none⟩)])) w := by kernel_rfl
theorem isComparable (w : World) : ((Extern.ReflectliteType.method fun t => do Extern.Rtype.noPackHeld "Comparable" t; (fun a => Value.bool a.comparable) <$> typeInfo t) #[.agg #[.pointer (some ⟨19, 392, none⟩)]]).run Tryz.prog w = .ok (.bool true) w := by kernel_rfl
theorem isMethodComparable (n : Nat) (v : Value) (w : World) : (Go.method (n + 1) 223 v "Comparable").run Tryz.prog w = .ok (338, v) w := by kernel_rfl
theorem isComp : (Tryz.prog.info? 392).map (·.comparable) = some true := by kernel_rfl
theorem isSize : (Tryz.prog.info? 411).map (·.size) = some 1 := by kernel_rfl
theorem noIsE (v : Value) (xT : TypeId) (w : World) : (Instr.typeAssert (.iface 392 v) xT 225 true).run Tryz.prog w = .ok (.tuple #[.nilIface, .bool false]) w := run_typeAssert_lacksB Tryz.underlying225 (by kernel_rfl) (by kernel_rfl) v xT w
theorem noUnwrapE (v : Value) (xT : TypeId) (w : World) : (Instr.typeAssert (.iface 392 v) xT 228 true).run Tryz.prog w = .ok (.tuple #[.nilIface, .bool false]) w := run_typeAssert_lacksB Tryz.underlying228 (by kernel_rfl) (by kernel_rfl) v xT w
theorem noUnwrapsE (v : Value) (xT : TypeId) (w : World) : (Instr.typeAssert (.iface 392 v) xT 230 true).run Tryz.prog w = .ok (.tuple #[.nilIface, .bool false]) w := run_typeAssert_lacksB Tryz.underlying230 (by kernel_rfl) (by kernel_rfl) v xT w
theorem is_same (a : Addr) (w : World) :
  Calls Tryz.prog 32 #[.iface 392 (.pointer (some a)), .iface 392 (.pointer (some a))] w fun e w' => e = .returned (.bool true) ∧ w' = w := by
 obtain ⟨i, hi, hcmp⟩ := Option.map_eq_some_iff.1 isComp
 obtain ⟨j, hj, hjs⟩ := Option.map_eq_some_iff.1 isSize
 have h8 := @run_callFunc_extern Tryz.prog 60 _ Extern.ReflectliteType.typeOf Tryz.func60 (by kernel_rfl) (by kernel_rfl) (by kernel_rfl) (by kernel_rfl)
 have h32 := @run_callFunc_extern Tryz.prog 338 _ (Extern.ReflectliteType.method fun t => do Extern.Rtype.noPackHeld "Comparable" t; pure (.bool (← typeInfo t).comparable)) Tryz.func338 (by kernel_rfl) (by kernel_rfl) (by kernel_rfl) (by kernel_rfl)
 have tT := isTypeOf
 have cT := isComparable
 have mR := isMethodComparable
 have heq := run_eql_iface_ptr_same (P := Tryz.prog) w a Tryz.underlying24 Tryz.underlying392 hi hcmp hj
 go_enter Tryz.func32, Tryz.ntmps32
 go_wp2
 refine wp_loop_rounds 1 ?_
 rw [rounds_succ]
 go_wp2
 go_ret
 exact ⟨rfl, rfl⟩
def erv (es : List Addr) : Nat → Value
 | 0 => .nilIface
 | k + 1 => .iface 392 (.pointer (some (es.getD k ⟨0, 0, none⟩)))
def gerrs : List Nat := [2, 3, 4, 5, 6, 7, 8, 9, 10, 11, 12, 13, 14, 0, 1, 15]
structure E4 (w : World) (es : List Addr) : Prop where
 arg : w.cell? ⟨2, 0, none⟩ = some (erv es 1)
 short : w.cell? ⟨3, 0, none⟩ = some (erv es 2)
 bytes : w.cell? ⟨4, 0, none⟩ = some (erv es 3)
 big : w.cell? ⟨5, 0, none⟩ = some (erv es 4)
theorem E4.below {w w' : World} {es : List Addr} (h : E4 w es) (hb : Below w.heap.size w w') : E4 w' es :=
 ⟨by rw [hb.cell (World.block_lt_of_cell? w _ h.arg)]; exact h.arg, by rw [hb.cell (World.block_lt_of_cell? w _ h.short)]; exact h.short,
  by rw [hb.cell (World.block_lt_of_cell? w _ h.bytes)]; exact h.bytes, by rw [hb.cell (World.block_lt_of_cell? w _ h.big)]; exact h.big⟩
theorem E4.of {w : World} {gs : List Nat} {es : List Addr} (h : Errs w gs es) (h4 : gs.take 4 = gerrs.take 4) : E4 w es := by
 have each : ∀ i g, i < 4 → gerrs[i]? = some g → w.cell? ⟨g, 0, none⟩ = some (erv es (i + 1)) := fun i g hi hg => by
  have hg' : gs[i]? = some g := by
   rw [← hg, ← List.getElem?_take_of_lt hi, h4, List.getElem?_take_of_lt hi]
  have hl : i < es.length := by
   rw [h.len]
   rcases Nat.lt_or_ge i gs.length with h' | h'
   ·exact h'
   ·rw [List.getElem?_eq_none h'] at hg'; cases hg'
  have := (h.each i g _ hg' (List.getElem?_eq_getElem hl)).1
  rw [this, erv, List.getD, List.getElem?_eq_getElem hl]
  rfl
 exact ⟨each 0 _ (by decide) rfl, each 1 _ (by decide) rfl, each 2 _ (by decide) rfl, each 3 _ (by decide) rfl⟩
def L16 : List (String × DataW Unit × Nat) := [("tableau/api.ErrArg", Rows.laid_tableau_api_ErrArg, 2), ("tableau/api.ErrShort", Rows.laid_tableau_api_ErrShort, 3), ("tableau/api.ErrBytes", Rows.laid_tableau_api_ErrBytes, 4), ("tableau/api.ErrBig", Rows.laid_tableau_api_ErrBig, 5), ("tableau/api.ErrObject", Rows.laid_tableau_api_ErrObject, 6), ("tableau/api.ErrMethod", Rows.laid_tableau_api_ErrMethod, 7), ("tableau/api.ErrFormat", Rows.laid_tableau_api_ErrFormat, 8), ("tableau/api.ErrStride", Rows.laid_tableau_api_ErrStride, 9), ("tableau/api.ErrFile", Rows.laid_tableau_api_ErrFile, 10), ("tableau/api.ErrRole", Rows.laid_tableau_api_ErrRole, 11), ("tableau/api.ErrPlace", Rows.laid_tableau_api_ErrPlace, 12), ("tableau/api.ErrState", Rows.laid_tableau_api_ErrState, 13), ("tableau/api.ErrSerial", Rows.laid_tableau_api_ErrSerial, 14), ("tableau/api.ErrFull", Rows.laid_tableau_api_ErrFull, 0), ("tableau/api.ErrGone", Rows.laid_tableau_api_ErrGone, 1), ("tableau/api.ErrSheet", Rows.laid_tableau_api_ErrSheet, 15)]
theorem laid16 : ∀ x ∈ L16, Tryz.prog.globalNamed x.1 = some x.2.2 ∧ (Tryz.prog.globals[x.2.2]?).map (·.type) = some 24 ∧ ∃ t, x.2.1 = .iface "*errors.errorString" (.ptr (.agg [.lit (.string t)])) := by
 intro x hx
 simp only [L16, List.mem_cons, List.not_mem_nil, or_false] at hx
 rcases hx with rfl | rfl | rfl | rfl | rfl | rfl | rfl | rfl | rfl | rfl | rfl | rfl | rfl | rfl | rfl | rfl
 all_goals exact ⟨by kernel_rfl, by kernel_rfl, _, rfl⟩
end
section
def words : List (List UInt8) := ["argument".toUTF8.data.toList, "short".toUTF8.data.toList, "bytes".toUTF8.data.toList, "big".toUTF8.data.toList, "object".toUTF8.data.toList, "method".toUTF8.data.toList, "format".toUTF8.data.toList, "stride".toUTF8.data.toList, "file".toUTF8.data.toList, "role".toUTF8.data.toList, "place".toUTF8.data.toList, "state".toUTF8.data.toList, "serial".toUTF8.data.toList, "full".toUTF8.data.toList, "gone".toUTF8.data.toList, "sheet".toUTF8.data.toList]
def Says (w : World) (es : List Addr) (ts : List (List UInt8)) : Prop := ∀ (i : Nat) (a : Addr) (t : List UInt8), es[i]? = some a → ts[i]? = some t → w.cell? a = some (.string ⟨t.toArray⟩)
theorem Says.below {w w' : World} {es : List Addr} {ts : List (List UInt8)} (h : Says w es ts) (hb : Below w.heap.size w w') : Says w' es ts := fun i a t ha ht => by
 have e := h i a t ha ht
 rw [hb.cell (World.block_lt_of_cell? w _ e)]
 exact e
theorem said_of_laid {P : Program} {W : World} {nm : String} {ti tp te ts : TypeId} {ms : Array (String × TypeId)} {f : Field}
  (hi : P.underlying ti = some (.interface ms)) (hrow : ∀ u, P.typeName? 3 u = some nm → u = tp)
  (hp : P.underlying tp = some (.pointer te)) (he : P.underlying te = some (.struct #[f])) (hft : f.type = ts) (hfo : f.offset = 0) (hs : P.underlying ts = some .string) (hc : P.cellsOf te = 1) (hcs : P.cellsOf ts = 1) :
  ∀ (L : List (String × DataW Unit × Nat)) (T : List (List UInt8)) (ps : List MemPlace), L.length = T.length → (∀ (i : Nat) x t, L[i]? = some x → T[i]? = some t → P.globalNamed x.1 = some x.2.2 ∧ (P.globals[x.2.2]?).map (·.type) = some ti ∧ x.2.1 = .iface nm (.ptr (.agg [.lit (.string t)]))) →
   DataW.LaidVars P W (L.map fun x => (x.1, x.2.1)) ps →
   (∀ b off, MemPlace.cell b off ∈ ps → (∃ c t, W.heap[b]? = some (.cells c t (0, 0))) ∧ ∀ u v, W.cell? ⟨b, off, none⟩ = some (.iface u v) → Value.okWide P W .any 0 u v) →
   ∃ es : List Addr, es.length = L.length ∧ List.Sublist (es.map fun a => MemPlace.cell a.block a.off) ps ∧
    (∀ (i : Nat) (g : Nat) (a : Addr), (L.map fun x => x.2.2)[i]? = some g → es[i]? = some a → W.cell? ⟨g, 0, none⟩ = some (.iface tp (.pointer (some a))) ∧ ∃ c t, W.heap[a.block]? = some (.cells c t (0, 0))) ∧ Says W es T := by
 intro L
 induction L with
 | nil =>
  intro T ps hl _ _ _
  exact ⟨[], rfl, List.nil_sublist _, fun i g a h => by simp at h, fun i a t h => by simp at h⟩
 | cons x L ih =>
  intro T ps hl hL hv hrows
  obtain ⟨n, d, g0⟩ := x
  obtain _ | ⟨text, T⟩ := T
  ·cases hl
  obtain ⟨hg0, ht0, hd⟩ := hL 0 _ _ rfl rfl
  obtain ⟨g, t, cs, fuel, p, q, hg, ht, hvar, htrod, hq, rfl⟩ := hv
  simp only at hg0 ht0 hd
  obtain rfl := Option.some.inj (hg0.symm.trans hg)
  obtain rfl := Option.some.inj (ht0.symm.trans ht)
  obtain ⟨es, h1, h2, h3, h4⟩ := ih T q (Nat.succ.inj hl) (fun i x t hx ht => hL (i + 1) x t hx ht) hq (fun b off hm => hrows b off (List.mem_append_right _ hm))
  obtain ⟨l0⟩ := cs
  have ok0 : ∀ u v, l0 = [.iface u v] → Value.okWide P W .any 0 u v := fun u v e => by
   subst e
   exact (hrows g0 0 (by simp [MemPlace.row])).2 u v (by simpa using World.var?_cell hg hvar 0)
  subst hd
  obtain ⟨a0, s0, rfl, hc0, hs0, hz0, rfl⟩ := errorString_of_trod hi hrow hp he hft hfo hs hc hcs htrod ok0
  refine ⟨a0 :: es, by simp [h1], ?_, ?_, ?_⟩
  ·rw [List.map_cons, row_one a0, List.append_assoc]
   exact List.Sublist.trans (List.Sublist.cons_cons _ h2) (List.sublist_append_right _ _)
  ·intro i g a hgi hai
   cases i with
   | zero =>
    simp only [List.map_cons, List.getElem?_cons_zero, Option.some.injEq] at hgi hai
    subst hgi hai
    refine ⟨by simpa using World.var?_cell hg hvar 0, ?_⟩
    exact (hrows a0.block a0.off (by simp [MemPlace.row])).1
   | succ i =>
    simp only [List.map_cons, List.getElem?_cons_succ] at hgi hai
    exact h3 i g a hgi hai
  ·intro i a t hai hti
   cases i with
   | zero =>
    simp only [List.getElem?_cons_zero, Option.some.injEq] at hai hti
    subst hai hti
    rw [hc0, ← hs0]
   | succ i =>
    simp only [List.getElem?_cons_succ] at hai hti
    exact h4 i a t hai hti
structure All (w : World) (es : List Addr) : Prop where
 errs : Errs w gerrs es
 says : Says w es words
 type : w.cell? ⟨16, 0, none⟩ = some (.iface 223 (.agg #[.pointer (some ⟨19, 24, none⟩)]))
theorem All.below {w w' : World} {es : List Addr} (h : All w es) (hb : Below w.heap.size w w') : All w' es :=
 ⟨h.errs.below hb, h.says.below hb, by rw [hb.cell (World.block_lt_of_cell? w _ h.type)]; exact h.type⟩
theorem laidT : ∀ (i : Nat) x t, L16[i]? = some x → words[i]? = some t → Tryz.prog.globalNamed x.1 = some x.2.2 ∧ (Tryz.prog.globals[x.2.2]?).map (·.type) = some 24 ∧ x.2.1 = .iface "*errors.errorString" (.ptr (.agg [.lit (.string t)])) := by
 intro i x t hx ht
 have hm := laid16 x (List.mem_of_getElem? hx)
 refine ⟨hm.1, hm.2.1, ?_⟩
 have hi : i < 16 := by
  rcases Nat.lt_or_ge i 16 with h | h
  ·exact h
  ·rw [List.getElem?_eq_none (by exact h)] at hx; cases hx
 have := i
 match i, hi with
 | 0, _ | 1, _ | 2, _ | 3, _ | 4, _ | 5, _ | 6, _ | 7, _ | 8, _ | 9, _ | 10, _ | 11, _ | 12, _ | 13, _ | 14, _ | 15, _ =>
  obtain rfl := Option.some.inj hx
  obtain rfl := Option.some.inj ht
  rfl
theorem errorTypeG : Tryz.prog.globalNamed "errors.errorType" = some 16 := by kernel_rfl
theorem rtypeCut : (Tryz.prog.cutTypes.find? (·.1 == "internal/reflectlite.rtype")).map (·.2) = some 223 := by kernel_rfl
theorem errorRow : ((List.range Tryz.prog.types.size).filter fun t => Tryz.prog.rowNamed t [101, 114, 114, 111, 114]) = [24] := by kernel_rfl
theorem errorHandle : typeHandle Tryz.prog 24 = .pointer (some ⟨19, 24, none⟩) := by kernel_rfl
theorem all17 {W : World} (h : laidMetH Tryz.prog (("errors.errorType", Rows.laid_errors_errorType) :: L16.map fun x => (x.1, x.2.1)) W) : ∃ es, All W es := by
 have h' : laidMet Tryz.prog (L16.map fun x => (x.1, x.2.1)) W ∧ handlesMet Tryz.prog [("errors.errorType", Rows.laid_errors_errorType)] W := h
 obtain ⟨⟨ps, hv, hnd, hrows⟩, hh⟩ := h'
 obtain ⟨es, h1, h2, h3, h4⟩ := said_of_laid Tryz.underlying24 rowES Tryz.underlying392 Tryz.underlying411 rfl rfl Tryz.underlying9 cellsES cellsStr L16 words ps rfl laidT hv hrows
 refine ⟨es, ⟨h1, nodup_of_places hnd h2, h3⟩, h4, ?_⟩
 obtain ⟨name, u, ty, e1, e2, e3, e4, e5⟩ := hh _ (List.mem_singleton.2 rfl)
 have en : name = [101, 114, 114, 111, 114] := (Option.some.inj e1).symm
 subst en
 obtain rfl := Option.some.inj (rtypeCut.symm.trans e2)
 have hm : ty ∈ (List.range Tryz.prog.types.size).filter fun t => Tryz.prog.rowNamed t [101, 114, 114, 111, 114] := List.mem_filter.2 ⟨List.mem_range.2 e3, e4⟩
 rw [errorRow] at hm
 obtain rfl := List.mem_singleton.1 hm
 rw [errorHandle] at e5
 simpa using World.var?_cell errorTypeG e5 0
end
section
theorem hid {p : Prop} (h : p) : Hid p := h
theorem Below.on {w w1 w2 : World} (h : Below w.heap.size w w1) (h2 : Below w1.heap.size w1 w2) : Below w.heap.size w w2 := h.trans (h2.mono h.size)
theorem wpAnyH_mono {P : Program} {md : Region.Mode} {ops : Array Oper} {Q : Exit → Act → World → Prop} {S S' : World → Prop} (h : ∀ x, S' x → S x) : ∀ {fuel : Nat} {listed : Array Bool} {a : Act} {w : World}, wpAnyH P md ops Q S' fuel listed a w → wpAnyH P md ops Q S fuel listed a w
 | 0, _, _, _, hh => hh
 | _ + 1, _, _, _, hh => ⟨hh.1, fun i hi => wpOp_mono (fun _ _ q => ⟨h _ q.1, wpAnyH_mono h q.2⟩) (hh.2 i hi)⟩
theorem ownsRow_low {w : World} {base base' e size n : Nat} {v : Value} {xs : List Value} (h : w.ownsRow base e size v n xs) (hb : base' ≤ base) : w.ownsRow base' e size v n xs := by
 refine ⟨h.1, ?_⟩
 rcases h.2 with q | ⟨g, cap, cur, e1, e2, e3⟩
 ·exact .inl q
 ·exact .inr ⟨g, cap, cur, e1, by omega, e3⟩
theorem ownsRow_below {w w' : World} {base e size n : Nat} {v : Value} {xs : List Value} (h : w.ownsRow base e size v n xs) (hb : Below w.heap.size w w') : w'.ownsRow base e size v n xs := by
 refine ⟨h.1, ?_⟩
 rcases h.2 with q | ⟨g, cap, cur, e1, e2, e3, e4⟩
 ·exact .inl q
 ·exact .inr ⟨g, cap, cur, e1, e2, by rw [hb.block _ (Array.getElem?_eq_some_iff.1 e3).1]; exact e3, e4⟩
theorem below_drewN_LibK {u v : World} {B : Nat} (h : Below B u v) (q : Nat) : Below B u (v.drewN q) := ⟨h.os, h.tape, h.output, h.size, h.block⟩
structure Kp (X : List Nat) (w w' : World) : Prop where
 os : w'.os = w.os
 tape : w'.tape = w.tape
 output : w'.output = w.output
 size : w.heap.size ≤ w'.heap.size
 block : ∀ k, k < w.heap.size → k ∉ X → w'.heap[k]? = w.heap[k]?
theorem Kp.below {X : List Nat} {w w' : World} {B : Nat} (h : Kp X w w') (hB : B ≤ w.heap.size) (hX : ∀ k ∈ X, B ≤ k) : Below B w w' :=
 ⟨h.os, h.tape, h.output, h.size, fun k hk => h.block k (by omega) (fun hm => by have := hX k hm; omega)⟩
theorem kp_of_below {w w' : World} (h : Below w.heap.size w w') (X : List Nat) : Kp X w w' := ⟨h.os, h.tape, h.output, h.size, fun k hk _ => h.block k hk⟩
theorem kp_of_grown {w w' : World} {row : Option Nat} (h : w.grownBy w' row) : Kp row.toList w w' :=
 ⟨h.os, h.tape, h.output, h.size, fun k hk hn => h.block k hk (fun e => hn (by rw [← e]; simp))⟩
theorem Kp.trans {X Y : List Nat} {w w1 w2 : World} (h : Kp X w w1) (h1 : Kp Y w1 w2) (hY : ∀ k ∈ Y, k < w.heap.size → k ∈ X) : Kp X w w2 :=
 ⟨h1.os.trans h.os, h1.tape.trans h.tape, h1.output.trans h.output, Nat.le_trans h.size h1.size, fun k hk hn => by
  rw [h1.block k (Nat.lt_of_lt_of_le hk h.size) (fun hm => hn (hY k hm hk))]
  exact h.block k hk hn⟩
theorem Kp.mono {X Y : List Nat} {w w1 : World} (h : Kp X w w1) (hY : ∀ k ∈ X, k < w.heap.size → k ∈ Y) : Kp Y w w1 :=
 ⟨h.os, h.tape, h.output, h.size, fun k hk hn => h.block k hk (fun hm => hn (hY k hm hk))⟩
theorem Kp.set {X : List Nat} {w w1 : World} (h : Kp X w w1) (p : Addr) (hp : p.block ∈ X) (u : Value) : Kp X w (w1.setCell p u) :=
 h.trans (Y := [p.block]) ⟨rfl, rfl, rfl, by simp [World.setCell], fun k _ hn => Below.heap_setCell _ _ _ _ (fun e => hn (by simp [e]))⟩ (fun k hk _ => by
  simp only [List.mem_cons, List.not_mem_nil, or_false] at hk
  rw [hk]
  exact hp)
theorem Kp.var {X : List Nat} {w w' : World} (h : Kp X w w') {k : Nat} {o : Obj} (ho : w.heap[k]? = some o) (hn : k ∉ X) : w'.heap[k]? = some o := by
 rw [h.block k (Array.getElem?_eq_some_iff.1 ho).1 hn]
 exact ho
theorem Kp.row {X : List Nat} {w w' : World} (h : Kp X w w') {base e size n : Nat} {v : Value} {xs : List Value} (ho : w.ownsRow base e size v n xs) (hn : ∀ k, v.ownBlock = some k → k ∉ X) : w'.ownsRow base e size v n xs := by
 refine ⟨ho.1, ?_⟩
 rcases ho.2 with q | ⟨g, cap, cur, rfl, e2, e3, e4⟩
 ·exact .inl q
 ·exact .inr ⟨g, cap, cur, rfl, e2, h.var e3 (hn g rfl), e4⟩
theorem ownsRow_set {w : World} {base e size n : Nat} {v : Value} {xs : List Value} (h : w.ownsRow base e size v n xs) (p : Addr) (hp : v.ownBlock ≠ some p.block) (u : Value) : (w.setCell p u).ownsRow base e size v n xs :=
 ((kp_of_below (Below.refl _ _) [p.block]).set p (by simp) u).row h (fun k hk hm => by
  simp only [List.mem_cons, List.not_mem_nil, or_false] at hm
  exact hp (by rw [hk, hm]))
theorem kp_turned {w w' : World} {b : Nat} (h : w.mapTurned w' b) : Kp [b] w w' := kp_of_grown h.grown
theorem Kp.refl (X : List Nat) (w : World) : Kp X w w := kp_of_below (Below.refl _ _) X
theorem Kp.cell {X : List Nat} {w w' : World} (h : Kp X w w') {a : Addr} {v : Value} (hc : w.cell? a = some v) (hn : a.block ∉ X) : w'.cell? a = some v := by
 rw [← hc]
 simp only [World.cell?, h.block a.block (World.block_lt_of_cell? w _ hc) hn]
end
section
def bc (l : List UInt8) : List Value := l.map fun b => Value.int .u8 b.toNat
theorem bc_length (l : List UInt8) : (bc l).length = l.length := by simp [bc]
theorem bc_append (a b : List UInt8) : bc (a ++ b) = bc a ++ bc b := by simp [bc]
theorem bc_one (l : List UInt8) : ∀ u ∈ bc l, u.oneCell' = true := by
 intro u hu
 obtain ⟨_, _, rfl⟩ := List.mem_map.1 hu
 rfl
theorem byteCells_eq (s : ByteArray) : byteCells s = bc s.data.toList := rfl
theorem nextslicecap_near {need old : Nat} (h : old < need) : Builtin.nextslicecap need old ≤ need + need / 4 + 512 := by
 unfold Builtin.nextslicecap
 split
 ·omega
 ·split
  ·omega
  ·rw [growBy_four]
   repeat' split
   all_goals omega
theorem fits1 {need : Nat} (h : need ≤ 225000000000000) : ∀ old, old < need → Builtin.nextslicecap need old * 1 ≤ 281474976710656 := fun old ho => by
 have := nextslicecap_near ho
 omega
section
variable {P : Program} (w : World)
theorem run_append_room_own (t tx ty e : TypeId) (i : TypeInfo) (ht : P.underlying t = some (.slice e)) (hi : P.info? e = some i)
  (g sLen sCap : Nat) (cur : Array Value) (hg : w.heap[g]? = some (.cells cur e (0, 0)))
  (x : Value) (m : Nat) (news : List Value) (hs : Src P i.size tx x m news w)
  (hroom : sLen + m ≤ sCap) (hfit : sLen * i.size + news.length ≤ cur.size) :
  (Builtin.append_ #[t, tx] ty #[.slice (some ⟨g, 0, none⟩) sLen sCap, x]).run P w =
   .ok (.slice (some ⟨g, 0, none⟩) (sLen + m) sCap) (w.setRow g (cur.toList.take (sLen * i.size) ++ news ++ cur.toList.drop (sLen * i.size + news.length)).toArray) := by
 have hst := run_storeCells_at P g (sLen * i.size) e news 0 cur w hg (by simpa using hfit) hs.one
 simp only [Nat.add_zero] at hst
 rcases hs.kind with ⟨e', hk⟩ | hk <;> simp [Builtin.append_, run_underlying ht, run_underlying hk, sizeOf, typeInfo, hi, hs.len, hroom, hs.cells, Addr.add_lit, hst]
theorem run_append_own_src (base : Nat) (t tx ty e : TypeId) (i : TypeInfo) (z : Value) (size bytes : Nat) (ht : P.underlying t = some (.slice e)) (hi : P.info? e = some i) (hz : i.zero = some z)
  (hsize : i.size = size) (hby : i.bytes = bytes) (hzs : z.cells.size = size)
  (v : Value) (n : Nat) (xs : List Value) (hown : w.ownsRow base e size v n xs)
  (x : Value) (m : Nat) (news : List Value) (hs : Src P size tx x m news w)
  (h63 : n + m ≤ maxLen) (hbytes : ∀ old, old < n + m → Builtin.nextslicecap (n + m) old * bytes ≤ 281474976710656) (hbase : base ≤ w.heap.size) :
  ∃ v' w', (Builtin.append_ #[t, tx] ty #[v, x]).run P w = .ok v' w' ∧ w'.ownsRow base e size v' (n + m) (xs ++ news) ∧ w.grownBy w' v.ownBlock := by
 subst hsize
 subst hby
 have hl := hs.newsLen
 have hsmall : n + m ≤ 9223372036854775807 := by simp only [maxLen] at h63; omega
 have hlen : (xs ++ news).length = (n + m) * i.size := by rw [List.length_append, hown.1, hl, Nat.add_mul]
 have grown : ∀ (old : Nat), old < n + m → ∀ (row : Option Nat),
   (w.drew.alloc (.cells ((xs ++ news).toArray ++ Builtin.zeroCells z.cells (grownCap w (n + m) old e - (n + m))) e)).ownsRow base e i.size
    (.slice (some ⟨w.heap.size, 0, none⟩) (n + m) (grownCap w (n + m) old e)) (n + m) (xs ++ news) ∧
   w.grownBy (w.drew.alloc (.cells ((xs ++ news).toArray ++ Builtin.zeroCells z.cells (grownCap w (n + m) old e - (n + m))) e)) row := by
  intro old ho row
  have hge := grownCap_ge w (n + m) old e
  have hcm : grownCap w (n + m) old e ≤ maxLen := grownCap_le_maxLen w (n + m) old e h63
  refine ⟨⟨hlen, .inr ⟨w.heap.size, _, _, rfl, hbase, _root_.Go.heap_alloc_new w.drew _, hge, hcm, ?_, ?_⟩⟩, ⟨rfl, rfl, rfl, by simp, fun k hk _ => Below.heap_alloc w.drew _ k hk⟩⟩
  ·simp only [Array.size_append, List.size_toArray, size_zeroCells, hzs, hlen, ← Nat.add_mul]
   congr 1
   omega
  ·simp only [Array.toList_append]
   rw [← hlen]
   exact List.take_left
 rcases hown.2 with ⟨rfl, rfl⟩ | ⟨g, cap, cur, rfl, hbg, hg, hnc, hcm, hcs, htake⟩
 ·have hx : xs = [] := List.eq_nil_of_length_eq_zero (by simpa using hown.1)
  subst hx
  by_cases hm : m = 0
  ·subst hm
   have hn : news = [] := List.eq_nil_of_length_eq_zero (by simpa using hl)
   subst hn
   refine ⟨.slice none 0 0, w, ?_, World.ownsRow_nil w base e i.size, ⟨rfl, rfl, rfl, Nat.le_refl _, fun _ _ _ => rfl⟩⟩
   rcases hs.kind with ⟨e', hk⟩ | hk <;> simp [Builtin.append_, run_underlying ht, run_underlying hk, sizeOf, typeInfo, hi, hs.len, hs.cells]
  ·have hr := run_append_grow_src (P := P) w t tx ty e i z ht hi hz none 0 0 [] (run_firstCells_none w.drew i.size 0 0 0) x m news hs (by omega) (by omega) (hbytes _ (by omega))
   have hgr := grown 0 (by omega) (Value.ownBlock (.slice none 0 0))
   exact ⟨_, _, hr, hgr.1, hgr.2⟩
 ·by_cases hroom : n + m ≤ cap
  ·have hfit : n * i.size + news.length ≤ cur.size := by rw [hl, hcs, ← Nat.add_mul]; exact Nat.mul_le_mul_right _ hroom
   have hr := run_append_room_own (P := P) w t tx ty e i ht hi g n cap cur hg x m news hs hroom hfit
   refine ⟨_, _, hr, ⟨hlen, .inr ⟨g, cap, _, rfl, hbg, setRow_heap w g cur _ e _ hg, hroom, hcm, ?_, ?_⟩⟩, ⟨rfl, rfl, rfl, by simp, fun k _ hk => setRow_other w g k _ (fun e => hk (by simp [Value.ownBlock, e]))⟩⟩
   ·simp only [List.size_toArray, List.length_append, List.length_take, List.length_drop, Array.length_toList]
    omega
   ·rw [htake, ← hlen]
    exact List.take_left
  ·have holds : ∀ j u, xs[j]? = some u → w.cell? ((⟨g, 0, none⟩ : Addr).add j) = some u := hown.cells (g := g) rfl
   have hold := run_firstCells_some (P := P) w.drew i.size n ⟨g, 0, none⟩ n cap xs hown.1 (by simpa using holds)
   have hr := run_append_grow_src (P := P) w t tx ty e i z ht hi hz (some ⟨g, 0, none⟩) n cap xs hold x m news hs (by omega) (by omega) (hbytes _ (by omega))
   have hgr := grown cap (by omega) (Value.ownBlock (.slice (some ⟨g, 0, none⟩) n cap))
   exact ⟨_, _, hr, hgr.1, hgr.2⟩
theorem wpList_append_own_src {ops : Array Oper} {rest : List Oper} {o : Oper} {a : Act} {Q : Exit → Act → World → Prop} (hgd : o.guard = none) (s x : Operand) (t tx : TypeId)
  (ho : o.op = .call { callee := .builtin .append, args := #[s, x], argTypes := #[t, tx] })
  (base : Nat) (e : TypeId) (i : TypeInfo) (z : Value) (size bytes : Nat) (ht : P.underlying t = some (.slice e)) (hi : P.info? e = some i) (hz : i.zero = some z)
  (hsize : i.size = size) (hby : i.bytes = bytes) (hzs : z.cells.size = size)
  (v : Value) (n : Nat) (xs : List Value) (hs : a.eval s = v) (hown : w.ownsRow base e size v n xs)
  (xv : Value) (m : Nat) (news : List Value) (hx : a.eval x = xv) (hsrc : Src P size tx xv m news w)
  (h63 : n + m ≤ maxLen) (hbytes : ∀ old, old < n + m → Builtin.nextslicecap (n + m) old * bytes ≤ 281474976710656) (hbase : base ≤ w.heap.size)
  (h : ∀ v' w', w'.ownsRow base e size v' (n + m) (xs ++ news) → w.grownBy w' v.ownBlock → wpList P ops Q rest (a.put o.dst v') w') : wpList P ops Q (o :: rest) a w :=
 wpList_plain hgd fun K hK => by
  obtain ⟨v', w', hr, h2, h3⟩ := run_append_own_src (P := P) w base t tx o.type e i z size bytes ht hi hz hsize hby hzs v n xs hown xv m news hsrc h63 hbytes hbase
  unfold Oper.wp execOp
  simp only [ho, resolve, invoke, builtin, Sem.run_bind, Sem.run_pure, Result.andThen_ok, List.map_toArray, List.map_cons, List.map_nil, hs, hx, hr]
  exact hK _ _ (h v' w' h2 h3)
end
structure Rd (w : World) (a : Option Addr) (n c : Nat) (l : List UInt8) : Prop where
 len : l.length = n
 le : n ≤ c
 max : c ≤ maxLen
 hnil : a = none → c = 0
 cells : ∀ x, a = some x → ∀ j u, (bc l)[j]? = some u → w.cell? (x.add j) = some u
theorem Rd.nil (w : World) : Rd w none 0 0 [] := ⟨rfl, Nat.le_refl _, Nat.zero_le _, fun _ => rfl, fun _ h => by cases h⟩
theorem Rd.below {w w' : World} {B : Nat} {a : Option Addr} {n c : Nat} {l : List UInt8} (h : Rd w a n c l) (hb : Below B w w') (ha : ∀ x, a = some x → 0 < l.length → x.block < B) : Rd w' a n c l :=
 ⟨h.len, h.le, h.max, h.hnil, fun x hx j u hu => by
  have hj : j < l.length := by
   rcases Nat.lt_or_ge j l.length with h' | h'
   ·exact h'
   ·rw [List.getElem?_eq_none (by rw [bc_length]; exact h')] at hu; cases hu
  rw [hb.cell (p := x.add j) (by have := ha x hx (by omega); unfold Addr.add; split <;> simpa using this)]
  exact h.cells x hx j u hu⟩
theorem Rd.src {P : Program} {w : World} {a : Option Addr} {n c : Nat} {l : List UInt8} (h : Rd w a n c l) {t e : TypeId} (ht : P.underlying t = some (.slice e)) : Src P 1 t (.slice a n c) n (bc l) w := by
 cases a with
 | none =>
  have h1 := h.hnil rfl
  have h2 := h.le
  have h3 := h.len
  obtain rfl : n = 0 := by omega
  obtain rfl : l = [] := List.eq_nil_of_length_eq_zero h3
  exact Src.ofNil w ht c
 | some x => exact Src.ofSlice w ht x n c (bc l) (by rw [bc_length, h.len, Nat.mul_one]) (h.cells x rfl) (bc_one l)
theorem Rd.plain {w : World} {a : Option Addr} {n c : Nat} {l : List UInt8} (h : Rd w a n c l) (hn : 0 < n) : ∃ b off, a = some ⟨b, off, none⟩ ∧ b < w.heap.size ∧ ∀ j (hj : j < l.length), w.cell? ⟨b, off + j, none⟩ = some (.int .u8 (l[j].toNat : Int)) := by
 cases a with
 | none => have := h.hnil rfl; have := h.le; omega
 | some x =>
  obtain ⟨b, off, spot⟩ := x
  have hl := h.len
  have at' : ∀ j (hj : j < l.length), w.cell? ((⟨b, off, spot⟩ : Addr).add j) = some (.int .u8 (l[j].toNat : Int)) := fun j hj => h.cells _ rfl j _ (by simp [bc, List.getElem?_eq_getElem hj])
  have hspot : spot = none := by simpa [Addr.add] using World.cell?_spot (at' 0 (by omega))
  subst hspot
  refine ⟨b, off, rfl, World.block_lt_of_cell? w _ (by simpa [Addr.add] using at' 0 (by omega)), fun j hj => ?_⟩
  rw [← Go.WideShapes.add_plain]
  exact at' j hj
theorem rd_of_owns {w : World} {base e n : Nat} {v : Value} {l : List UInt8} (h : w.ownsRow base e 1 v n (bc l)) : ∃ a c, v = .slice a n c ∧ Rd w a n c l ∧ (∀ x, a = some x → base ≤ x.block ∧ x.block < w.heap.size) := by
 have hl : l.length = n := by have := h.1; rw [bc_length] at this; omega
 rcases h.2 with ⟨rfl, rfl⟩ | ⟨g, cap, cur, rfl, hb, hg, hn, hm, _, _⟩
 ·obtain rfl : l = [] := List.eq_nil_of_length_eq_zero hl
  exact ⟨none, 0, rfl, Rd.nil w, fun x hx => by cases hx⟩
 ·refine ⟨some ⟨g, 0, none⟩, cap, rfl, ⟨hl, hn, hm, (fun h => by cases h), fun x hx => ?_⟩, fun x hx => ?_⟩
  ·cases hx
   exact h.cells rfl
  ·cases hx
   exact ⟨hb, (Array.getElem?_eq_some_iff.1 hg).1⟩
structure RdI (k : IntKind) (w : World) (a : Option Addr) (n c : Nat) (zs : List Int) : Prop where
 len : zs.length = n
 le : n ≤ c
 max : c ≤ maxLen
 hnil : a = none → c = 0
 cells : ∀ x, a = some x → ∀ j, j < n → w.cell? (x.add j) = some (.int k (zs.getD j 0))
 wf : ∀ z ∈ zs, (Lit.int k z).wf = true
theorem RdI.plain {k : IntKind} {w : World} {a : Option Addr} {n c : Nat} {zs : List Int} (h : RdI k w a n c zs) (hn : 0 < n) : ∃ b off, a = some ⟨b, off, none⟩ ∧ b < w.heap.size ∧ ∀ j, j < zs.length → w.cell? ⟨b, off + j, none⟩ = some (.int k (zs.getD j 0)) := by
 cases a with
 | none => have := h.hnil rfl; have := h.le; omega
 | some x =>
  obtain ⟨b, off, spot⟩ := x
  have hl := h.len
  have hspot : spot = none := by simpa [Addr.add] using World.cell?_spot (h.cells _ rfl 0 hn)
  subst hspot
  refine ⟨b, off, rfl, World.block_lt_of_cell? w _ (by simpa [Addr.add] using h.cells _ rfl 0 hn), fun j hj => ?_⟩
  rw [← Go.WideShapes.add_plain]
  exact h.cells _ rfl j (by omega)
theorem map_ofNat_toNat (l : List UInt8) : (l.map fun b => (b.toNat : Int)).map (fun n => UInt8.ofNat n.toNat) = l := by
 rw [List.map_map]
 conv => rhs; rw [← List.map_id l]
 apply List.map_congr_left
 intro x _
 simp
theorem Rd.conv {P : Program} {w : World} {a : Option Addr} {n c : Nat} {l : List UInt8} (h : Rd w a n c l) (src dst e : TypeId) (hs : P.underlying src = some (.slice e)) (he : P.underlying e = some (.int .u8)) (hd : P.underlying dst = some .string) :
  (convert src dst (.slice a n c)).run P w = .ok (.string ⟨l.toArray⟩) w := by
 cases a with
 | none =>
  have h0 := h.hnil rfl
  have h1 := h.le
  have h2 := h.len
  obtain rfl : l = [] := List.eq_nil_of_length_eq_zero (by omega)
  rw [run_convert_bytes_string w src dst e _ n c hs he hd]
  simp [Conv.bytesToString]
  rfl
 | some x =>
  have hl : (loadCells x n).run P w = .ok ((l.map fun b => (b.toNat : Int)).map (Value.int .u8)).toArray w := by
   have := run_loadCells_list (P := P) w x (bc l) (fun j v hj => h.cells x rfl j v hj)
   rw [bc_length, h.len] at this
   rw [this, bc, List.map_map]
   rfl
  rw [run_convert_bytes_string w src dst e _ n c hs he hd, run_bytesToString w _ n c _ hl, foldl_push_bytes, map_ofNat_toNat]
  simp [ByteArray.empty, ByteArray.emptyWithCapacity]
  rfl
theorem RdI.on {k : IntKind} {w x : World} {a : Option Addr} {n c : Nat} {zs : List Int} (h : RdI k w a n c zs) (hb : Below w.heap.size w x) : RdI k x a n c zs :=
 ⟨h.len, h.le, h.max, h.hnil, fun y hy j hj => by
  obtain ⟨b, off, e, hbl, _⟩ := h.plain (by omega)
  have hc := h.cells y hy j hj
  rw [hy] at e
  cases e
  rw [Go.WideShapes.add_plain] at hc ⊢
  rw [hb.cell hbl]
  exact hc, h.wf⟩
end
section
open Go Go.ChangeShapes Go.WideShapes Go.ChangeAt Go.RowKit Go.Deep
def numOf : Value → Int
 | .int _ a => a
 | _ => 0
variable {H : Type} {enc : TypeId × Value → H} {W : World} {P : Program}
end
end Go.Proofs.YtpbgbpcdohdecaaGreatDoor
