/- Lemmas that the proof leans on. -/
import Derived.Test.YtdgknofpkafppaaGreatDoorRows
import Derived.Stop.Asserts
import Derived.Stop.LaidTwo
import Derived.LaidMore
import Derived.Test.YtdgknofpkafppaaGreatDoorB01
namespace Go.Proofs.YtdgknofpkafppaaGreatDoor
open Go Go.RowKit
set_option maxRecDepth 100000
section
def Sent (w : World) (g : Nat) (a : Addr) : Prop := w.cell? ⟨g, 0, none⟩ = some (.iface 176 (.pointer (some a))) ∧ ∃ c t, w.heap[a.block]? = some (.cells c t (0, 0))
structure Errs (w : World) (gs : List Nat) (es : List Addr) : Prop where
 len : es.length = gs.length
 nodup : es.Nodup
 each : ∀ (i : Nat) (g : Nat) (a : Addr), gs[i]? = some g → es[i]? = some a → Sent w g a
theorem Sent.below {w w' : World} {g : Nat} {a : Addr} (h : Sent w g a) (hb : Below w.heap.size w w') : Sent w' g a := by
 obtain ⟨h1, c, t, h2⟩ := h
 refine ⟨?_, c, t, ?_⟩
 ·rw [hb.cell (World.block_lt_of_cell? w _ h1)]
  exact h1
 ·rw [hb.block _ (Array.getElem?_eq_some_iff.1 h2).1]
  exact h2
theorem Errs.below {w w' : World} {gs : List Nat} {es : List Addr} (h : Errs w gs es) (hb : Below w.heap.size w w') : Errs w' gs es :=
 ⟨h.len, h.nodup, fun i g a hg ha => (h.each i g a hg ha).below hb⟩
theorem row_one (a : Addr) : MemPlace.row a 1 = [.cell a.block a.off] := by simp [MemPlace.row]
theorem sents_of_laid {P : Program} {W : World} {nm : String} {ti tp te ts : TypeId} {ms : Array (String × TypeId)} {f : Field}
  (hi : P.underlying ti = some (.interface ms)) (hrow : ∀ u, P.typeName? 3 u = some nm → u = tp)
  (hp : P.underlying tp = some (.pointer te)) (he : P.underlying te = some (.struct #[f])) (hft : f.type = ts) (hfo : f.offset = 0) (hs : P.underlying ts = some .string) (hc : P.cellsOf te = 1) (hcs : P.cellsOf ts = 1) :
  ∀ (L : List (String × DataW Unit × Nat)) (ps : List MemPlace), (∀ x ∈ L, P.globalNamed x.1 = some x.2.2 ∧ (P.globals[x.2.2]?).map (·.type) = some ti ∧ ∃ t, x.2.1 = .iface nm (.ptr (.agg [.lit (.string t)]))) →
   DataW.LaidVars P W (L.map fun x => (x.1, x.2.1)) ps →
   (∀ b off, MemPlace.cell b off ∈ ps → (∃ c t, W.heap[b]? = some (.cells c t (0, 0))) ∧ ∀ u v, W.cell? ⟨b, off, none⟩ = some (.iface u v) → Value.okWide P W .any 0 u v) →
   ∃ es : List Addr, es.length = L.length ∧ List.Sublist (es.map fun a => MemPlace.cell a.block a.off) ps ∧
    ∀ (i : Nat) (g : Nat) (a : Addr), (L.map fun x => x.2.2)[i]? = some g → es[i]? = some a → W.cell? ⟨g, 0, none⟩ = some (.iface tp (.pointer (some a))) ∧ ∃ c t, W.heap[a.block]? = some (.cells c t (0, 0)) := by
 intro L
 induction L with
 | nil =>
  intro ps _ _ _
  exact ⟨[], rfl, List.nil_sublist _, fun i g a h => by simp at h⟩
 | cons x L ih =>
  intro ps hL hv hrows
  obtain ⟨n, d, g0⟩ := x
  obtain ⟨hg0, ht0, text, hd⟩ := hL _ (List.mem_cons_self ..)
  obtain ⟨g, t, cs, fuel, p, q, hg, ht, hvar, htrod, hq, rfl⟩ := hv
  simp only at hg0 ht0 hd
  obtain rfl := Option.some.inj (hg0.symm.trans hg)
  obtain rfl := Option.some.inj (ht0.symm.trans ht)
  obtain ⟨es, h1, h2, h3⟩ := ih q (fun x hx => hL x (List.mem_cons_of_mem _ hx)) hq (fun b off hm => hrows b off (List.mem_append_right _ hm))
  obtain ⟨l0⟩ := cs
  have ok0 : ∀ u v, l0 = [.iface u v] → Value.okWide P W .any 0 u v := fun u v e => by
   subst e
   exact (hrows g0 0 (by simp [MemPlace.row])).2 u v (by simpa using World.var?_cell hg hvar 0)
  subst hd
  obtain ⟨a0, s0, rfl, hc0, hs0, hz0, rfl⟩ := errorString_of_trod hi hrow hp he hft hfo hs hc hcs htrod ok0
  refine ⟨a0 :: es, by simp [h1], ?_, ?_⟩
  ·rw [List.map_cons, row_one a0, List.append_assoc]
   exact List.Sublist.trans (List.Sublist.cons_cons _ h2) (List.sublist_append_right _ _)
  ·intro i g a hgi hai
   cases i with
   | zero =>
    simp only [List.map_cons, List.getElem?_cons_zero, Option.some.injEq] at hgi hai
    subst hgi hai
    refine ⟨by simpa using World.var?_cell hg hvar 0, ?_⟩
    exact (hrows a0.block a0.off (by simp [MemPlace.row])).1
   | succ i =>
    simp only [List.map_cons, List.getElem?_cons_succ] at hgi hai
    exact h3 i g a hgi hai
theorem nodup_of_places {es : List Addr} {ps : List MemPlace} (h : ps.Nodup) (hs : List.Sublist (es.map fun a => MemPlace.cell a.block a.off) ps) : es.Nodup := by
 have h2 := List.Nodup.sublist hs h
 clear h hs
 induction es with
 | nil => exact List.nodup_nil
 | cons a es ih =>
  rw [List.map_cons, List.nodup_cons] at h2
  rw [List.nodup_cons]
  exact ⟨fun hm => h2.1 (List.mem_map_of_mem (f := fun a : Addr => MemPlace.cell a.block a.off) hm), ih h2.2⟩
theorem cellsES : Tryz.prog.cellsOf 201 = 1 := by kernel_rfl
theorem cellsStr : Tryz.prog.cellsOf 9 = 1 := by kernel_rfl
theorem star : "*" ++ "errors.errorString" = "*errors.errorString" := by decide
theorem rowES (u : TypeId) (h : Tryz.prog.typeName? 3 u = some "*errors.errorString") : u = 176 :=
 typeName_ptr_named (nm := "errors.errorString") (by rw [star]; kernel_rfl) (by kernel_rfl) (by decide) u (by rw [star]; exact h)
theorem errs_of_laid (L : List (String × DataW Unit × Nat)) {W : World} (hL : ∀ x ∈ L, Tryz.prog.globalNamed x.1 = some x.2.2 ∧ (Tryz.prog.globals[x.2.2]?).map (·.type) = some 47 ∧ ∃ t, x.2.1 = .iface "*errors.errorString" (.ptr (.agg [.lit (.string t)])))
  (h : laidMet Tryz.prog (L.map fun x => (x.1, x.2.1)) W) : ∃ es, Errs W (L.map fun x => x.2.2) es := by
 obtain ⟨ps, hv, hnd, hrows⟩ := h
 obtain ⟨es, h1, h2, h3⟩ := sents_of_laid Tryz.underlying47 rowES Tryz.underlying176 Tryz.underlying201 rfl rfl Tryz.underlying9 cellsES cellsStr L ps hL hv hrows
 exact ⟨es, by rw [h1, List.length_map], nodup_of_places hnd h2, h3⟩
theorem isTypeOf (v : Value) (w : World) : (Extern.ReflectliteType.typeOf #[.iface 176 v]).run Tryz.prog w = .ok (.iface 153 (.agg #[.pointer (some ⟨16, 176, none⟩)])) w := by kernel_rfl
theorem isComparable (w : World) : ((Extern.ReflectliteType.method fun t => do Extern.Rtype.noPackHeld "Comparable" t; (fun a => Value.bool a.comparable) <$> typeInfo t) #[.agg #[.pointer (some ⟨16, 176, none⟩)]]).run Tryz.prog w = .ok (.bool true) w := by kernel_rfl
theorem isMethodComparable (n : Nat) (v : Value) (w : World) : (Go.method (n + 1) 153 v "Comparable").run Tryz.prog w = .ok (170, v) w := by kernel_rfl
theorem isComp : (Tryz.prog.info? 176).map (·.comparable) = some true := by kernel_rfl
theorem isSize : (Tryz.prog.info? 201).map (·.size) = some 1 := by kernel_rfl
theorem noIsE (v : Value) (xT : TypeId) (w : World) : (Instr.typeAssert (.iface 176 v) xT 155 true).run Tryz.prog w = .ok (.tuple #[.nilIface, .bool false]) w := run_typeAssert_lacksB Tryz.underlying155 (by kernel_rfl) (by kernel_rfl) v xT w
theorem noUnwrapE (v : Value) (xT : TypeId) (w : World) : (Instr.typeAssert (.iface 176 v) xT 158 true).run Tryz.prog w = .ok (.tuple #[.nilIface, .bool false]) w := run_typeAssert_lacksB Tryz.underlying158 (by kernel_rfl) (by kernel_rfl) v xT w
theorem noUnwrapsE (v : Value) (xT : TypeId) (w : World) : (Instr.typeAssert (.iface 176 v) xT 160 true).run Tryz.prog w = .ok (.tuple #[.nilIface, .bool false]) w := run_typeAssert_lacksB Tryz.underlying160 (by kernel_rfl) (by kernel_rfl) v xT w
theorem is_same (a : Addr) (w : World) :
  Calls Tryz.prog 78 #[.iface 176 (.pointer (some a)), .iface 176 (.pointer (some a))] w fun e w' => e = .returned (.bool true) ∧ w' = w := by
 obtain ⟨i, hi, hcmp⟩ := Option.map_eq_some_iff.1 isComp
 obtain ⟨j, hj, hjs⟩ := Option.map_eq_some_iff.1 isSize
 have h8 := @run_callFunc_extern Tryz.prog 111 _ Extern.ReflectliteType.typeOf Tryz.func111 (by kernel_rfl) (by kernel_rfl) (by kernel_rfl) (by kernel_rfl)
 have h32 := @run_callFunc_extern Tryz.prog 170 _ (Extern.ReflectliteType.method fun t => do Extern.Rtype.noPackHeld "Comparable" t; pure (.bool (← typeInfo t).comparable)) Tryz.func170 (by kernel_rfl) (by kernel_rfl) (by kernel_rfl) (by kernel_rfl)
 have tT := isTypeOf
 have cT := isComparable
 have mR := isMethodComparable
 have heq := run_eql_iface_ptr_same (P := Tryz.prog) w a Tryz.underlying47 Tryz.underlying176 hi hcmp hj
 go_enter Tryz.func78, Tryz.ntmps78
 go_wp2
 refine wp_loop_rounds 1 ?_
 rw [rounds_succ]
 go_wp2
 go_ret
 exact ⟨rfl, rfl⟩
theorem is_other (a b : Addr) (ca cb : Array Value) (ta tb : TypeId) (w : World) (hne : a ≠ b) (ha : w.heap[a.block]? = some (.cells ca ta (0, 0))) (hb : w.heap[b.block]? = some (.cells cb tb (0, 0))) :
  Calls Tryz.prog 78 #[.iface 176 (.pointer (some a)), .iface 176 (.pointer (some b))] w fun e w' => e = .returned (.bool false) ∧ w' = w := by
 obtain ⟨i, hi, hcmp⟩ := Option.map_eq_some_iff.1 isComp
 obtain ⟨j, hj, hjs⟩ := Option.map_eq_some_iff.1 isSize
 have h8 := @run_callFunc_extern Tryz.prog 111 _ Extern.ReflectliteType.typeOf Tryz.func111 (by kernel_rfl) (by kernel_rfl) (by kernel_rfl) (by kernel_rfl)
 have h32 := @run_callFunc_extern Tryz.prog 170 _ (Extern.ReflectliteType.method fun t => do Extern.Rtype.noPackHeld "Comparable" t; pure (.bool (← typeInfo t).comparable)) Tryz.func170 (by kernel_rfl) (by kernel_rfl) (by kernel_rfl) (by kernel_rfl)
 have tT := isTypeOf
 have cT := isComparable
 have mR := isMethodComparable
 have nE := noIsE
 have uE := noUnwrapE
 have vE := noUnwrapsE
 have heq := run_eql_iface_ptr_other (P := Tryz.prog) w Tryz.underlying47 Tryz.underlying176 hi hcmp hj (by rw [hjs]; decide) hne ha hb
 go_enter Tryz.func78, Tryz.ntmps78
 go_wp2
 refine wp_loop_rounds 1 ?_
 rw [rounds_succ]
 go_wp2
 go_ret
 exact ⟨rfl, rfl⟩
def erv (es : List Addr) : Nat → Value
 | 0 => .nilIface
 | k + 1 => .iface 176 (.pointer (some (es.getD k ⟨0, 0, none⟩)))
def gerrs : List Nat := [0, 5, 6, 2, 1, 7, 8, 9, 10, 3, 4, 11, 12, 13, 14, 15]
structure E4 (w : World) (es : List Addr) : Prop where
 arg : w.cell? ⟨0, 0, none⟩ = some (erv es 1)
 short : w.cell? ⟨5, 0, none⟩ = some (erv es 2)
 bytes : w.cell? ⟨6, 0, none⟩ = some (erv es 3)
 big : w.cell? ⟨2, 0, none⟩ = some (erv es 4)
def L16 : List (String × DataW Unit × Nat) := [("tableau/api.ErrArg", Rows.laid_tableau_api_ErrArg, 0), ("tableau/api.ErrShort", Rows.laid_tableau_api_ErrShort, 5), ("tableau/api.ErrBytes", Rows.laid_tableau_api_ErrBytes, 6), ("tableau/api.ErrBig", Rows.laid_tableau_api_ErrBig, 2), ("tableau/api.ErrObject", Rows.laid_tableau_api_ErrObject, 1), ("tableau/api.ErrMethod", Rows.laid_tableau_api_ErrMethod, 7), ("tableau/api.ErrFormat", Rows.laid_tableau_api_ErrFormat, 8), ("tableau/api.ErrStride", Rows.laid_tableau_api_ErrStride, 9), ("tableau/api.ErrFile", Rows.laid_tableau_api_ErrFile, 10), ("tableau/api.ErrRole", Rows.laid_tableau_api_ErrRole, 3), ("tableau/api.ErrPlace", Rows.laid_tableau_api_ErrPlace, 4), ("tableau/api.ErrState", Rows.laid_tableau_api_ErrState, 11), ("tableau/api.ErrSerial", Rows.laid_tableau_api_ErrSerial, 12), ("tableau/api.ErrFull", Rows.laid_tableau_api_ErrFull, 13), ("tableau/api.ErrGone", Rows.laid_tableau_api_ErrGone, 14), ("tableau/api.ErrSheet", Rows.laid_tableau_api_ErrSheet, 15)]
theorem laid16 : ∀ x ∈ L16, Tryz.prog.globalNamed x.1 = some x.2.2 ∧ (Tryz.prog.globals[x.2.2]?).map (·.type) = some 47 ∧ ∃ t, x.2.1 = .iface "*errors.errorString" (.ptr (.agg [.lit (.string t)])) := by
 intro x hx
 simp only [L16, List.mem_cons, List.not_mem_nil, or_false] at hx
 rcases hx with rfl | rfl | rfl | rfl | rfl | rfl | rfl | rfl | rfl | rfl | rfl | rfl | rfl | rfl | rfl | rfl
 all_goals exact ⟨by kernel_rfl, by kernel_rfl, _, rfl⟩
theorem errs16 {W : World} (h : laidMetH Tryz.prog (L16.map fun x => (x.1, x.2.1)) W) : ∃ es, Errs W gerrs es := by
 rw [MakeChecks.laidMetH_plain _ _ _ (by kernel_rfl)] at h
 exact errs_of_laid L16 laid16 h
end
section
structure Pl (w : World) (p : Addr) : Prop where
 c : w.cell? ⟨4, 0, none⟩ = some (.iface 176 (.pointer (some p)))
theorem Pl.on {w u : World} {p : Addr} (h : Pl w p) (hb : Below w.heap.size w u) : Pl u p := ⟨by rw [hb.cell (World.block_lt_of_cell? w _ h.c)]; exact h.c⟩
theorem Pl.drewN {w : World} {p : Addr} (h : Pl w p) (q : Nat) : Pl (w.drewN q) p := h.on (below_drewN (Below.refl _ _) q)
def pe (p : Addr) : Bool → Value
 | true => .iface 176 (.pointer (some p))
 | false => .nilIface
theorem isz_nil (a : Addr) (w : World) :
  Calls Tryz.prog 78 #[.nilIface, .iface 176 (.pointer (some a))] w fun e w' => e = .returned (.bool false) ∧ w' = w := by
 have hq := run_eql_iface_nil_left (P := Tryz.prog) w 176 (.pointer (some a)) Tryz.underlying47
 go_enter Tryz.func78, Tryz.ntmps78
 go_wp2
 go_ret
 exact ⟨rfl, rfl⟩
def zxI (k : Int) (l : List Int) : Int := match zx k l with
 | some i => i
 | none => -1
theorem zindex_any (a : Option Addr) (n c : Nat) (l : List Int) (k : Int) (w : World) (h : Rz w a n c l) :
  Calls Tryz.prog 150 #[.slice a n c, .int .i64 k] w fun e w' => e = .returned (.int .i64 (zxI k l)) ∧ w' = w := by
 have hn63 := h.small.1
 have H := hid h
 have HL := hid h.len
 clear h
 go_enter Tryz.func150, Tryz.ntmps150
 go_wp2
 go_loopw [8] (fun i wr => ∃ j : Nat, i = .int .i64 j ∧ j ≤ n ∧ (∀ i y, i < j → l[i]? = some y → y ≠ k) ∧ wr = w) (fun i _ => n - (numOf i).toNat)
 case atStart => exact ⟨0, rfl, by omega, fun i y hi => absurd hi (by omega), rfl⟩
 case round =>
  obtain ⟨j, rfl, hj, hq, rfl⟩ := hrel
  by_cases hgo : j < n
  ·have e1 : decide ((j : Int) < n) = true := decide_eq_true (by omega)
   have e2 : (j : Int) < n := by omega
   obtain ⟨bl, off, x, rfl, _, hx, c0⟩ := H.out.at_ hgo
   have HX := hid hx
   have HQ := hid hq
   clear hx hq
   cases hs : (k == x)
   ·have hne : x ≠ k := fun e => by simp [e] at hs
    have HN : Hid (∀ i y, i < j + 1 → l[i]? = some y → y ≠ k) := fun i y hi hy => by
     rcases Nat.lt_or_ge i j with h' | h'
     ·exact HQ.out i y h' hy
     ·obtain rfl : i = j := by omega
      rw [HX.out] at hy
      cases hy
      exact hne
    clear hne
    go_wp2
    go_roundw
    case rel => exact ⟨j + 1, by go_num, by omega, HN.out, trivial⟩
    case measure => simp [numOf]; omega
   ·have HE : Hid (zxI k l = j) := by
     have hke : x = k := by simpa using (beq_iff_eq.1 hs).symm
     rw [Hid, zxI, zx_drop HQ.out, zx_at HX.out, if_pos hke]
     simp
    go_wp2
    go_ret
    rw [HE.out]
    exact ⟨rfl, rfl⟩
  ·have e1 : decide ((j : Int) < n) = false := decide_eq_false (by omega)
   have HE : Hid (zxI k l = -1) := by
    rw [Hid, zxI, zx_drop hq, List.drop_eq_nil_of_le (by rw [HL.out]; omega)]
    rfl
   clear hq
   go_wp2
   go_ret
   rw [HE.out]
   exact ⟨rfl, rfl⟩
def fstV (p : Addr) (k : Int) (l : List Int) : Value := match zx k l with
 | some i => .tuple #[.int .i64 (i : Nat), pe p false]
 | none => .tuple #[.int .i64 0, pe p true]
theorem fstV_some {p : Addr} {k : Int} {l : List Int} {i : Nat} (h : zx k l = some i) : fstV p k l = .tuple #[.int .i64 (i : Nat), .nilIface] := by rw [fstV, h]; rfl
theorem fstV_none {p : Addr} {k : Int} {l : List Int} (h : zx k l = none) : fstV p k l = .tuple #[.int .i64 0, .iface 176 (.pointer (some p))] := by rw [fstV, h]; rfl
theorem ofirst_any (a : Option Addr) (n c : Nat) (l : List Int) (k : Int) (w : World) (p : Addr) (hp : Pl w p) (h : Rz w a n c l) :
  Calls Tryz.prog 140 #[.slice a n c, .int .i64 k] w fun e w' => e = .returned (fstV p k l) ∧ ∃ q, w' = w.drewN q := by
 have c0 := hp.c
 have HI := hid (zindex_any a n c l k w h)
 clear h hp
 go_enter Tryz.func140, Tryz.ntmps140
 cases hx : zx k l with
 | some i =>
  rw [zxI, hx] at HI
  have HF := hid (fstV_some (p := p) hx)
  have e0 : decide ((0 : Int) ≤ (i : Nat)) = true := decide_eq_true (by omega)
  clear hx
  go_wp2_with fail
  refine HI.out.mono ?_
  rintro e w1 ⟨rfl, rfl⟩
  go_wp2
  go_ret2
  rw [HF.out]
  exact ⟨rfl, 0, rfl⟩
 | none =>
  rw [zxI, hx] at HI
  have HF := hid (fstV_none (p := p) hx)
  clear hx
  go_wp2_with fail
  refine HI.out.mono ?_
  rintro e w1 ⟨rfl, rfl⟩
  go_wp2
  go_quiet (fail)
  go_wp2
  go_ret2
  rw [HF.out]
  exact ⟨rfl, _, rfl⟩
theorem ohas_any (a : Option Addr) (n c : Nat) (l : List Int) (k : Int) (w : World) (p : Addr) (hp : Pl w p) (h : Rz w a n c l) :
  Calls Tryz.prog 139 #[.slice a n c, .int .i64 k] w fun e w' => e = .returned (.bool (zx k l).isSome) ∧ ∃ q, w' = w.drewN q := by
 have HI := hid (ofirst_any a n c l k w p hp h)
 have HC : Hid (∀ q, (w.drewN q).cell? ⟨4, 0, none⟩ = some (.iface 176 (.pointer (some p)))) := fun q => (hp.drewN q).c
 clear h hp
 go_enter Tryz.func139, Tryz.ntmps139
 cases hx : zx k l with
 | some i =>
  rw [fstV_some hx] at HI
  clear hx
  go_wp2_with fail
  refine HI.out.mono ?_
  rintro e w1 ⟨rfl, q, rfl⟩
  have c0 := HC.out q
  go_wp2_with fail
  refine (isz_nil p _).mono ?_
  rintro e w2 ⟨rfl, rfl⟩
  go_wp2
  go_ret
  exact ⟨rfl, _, rfl⟩
 | none =>
  rw [fstV_none hx] at HI
  clear hx
  go_wp2_with fail
  refine HI.out.mono ?_
  rintro e w1 ⟨rfl, q, rfl⟩
  have c0 := HC.out q
  go_wp2_with fail
  refine (is_same p _).mono ?_
  rintro e w2 ⟨rfl, rfl⟩
  go_wp2
  go_ret
  exact ⟨rfl, _, rfl⟩
end
section
structure Fe (w : World) (es : List Addr) : Prop where
 arg : w.cell? ⟨0, 0, none⟩ = some (erv es 1)
 big : w.cell? ⟨2, 0, none⟩ = some (erv es 4)
 obj : w.cell? ⟨1, 0, none⟩ = some (erv es 5)
 rol : w.cell? ⟨3, 0, none⟩ = some (erv es 10)
 plc : w.cell? ⟨4, 0, none⟩ = some (erv es 11)
theorem Fe.on {w w' : World} {es : List Addr} (h : Fe w es) (hb : Below w.heap.size w w') : Fe w' es :=
 ⟨by rw [hb.cell (World.block_lt_of_cell? w _ h.arg)]; exact h.arg, by rw [hb.cell (World.block_lt_of_cell? w _ h.big)]; exact h.big,
  by rw [hb.cell (World.block_lt_of_cell? w _ h.obj)]; exact h.obj, by rw [hb.cell (World.block_lt_of_cell? w _ h.rol)]; exact h.rol, by rw [hb.cell (World.block_lt_of_cell? w _ h.plc)]; exact h.plc⟩
theorem Fe.pl {w : World} {es : List Addr} (h : Fe w es) : Pl w (es.getD 10 ⟨0, 0, none⟩) := ⟨h.plc⟩
theorem fe_of {w : World} {es : List Addr} (h : Errs w gerrs es) : Fe w es := by
 have hl : es.length = 16 := h.len
 have each : ∀ i g, gerrs[i]? = some g → i < 16 → w.cell? ⟨g, 0, none⟩ = some (erv es (i + 1)) := fun i g hg hi => by
  have := (h.each i g _ hg (List.getElem?_eq_getElem (by omega))).1
  rw [this, erv, List.getD, List.getElem?_eq_getElem (by omega)]
  rfl
 exact ⟨each 0 _ rfl (by decide), each 3 _ rfl (by decide), each 4 _ rfl (by decide), each 9 _ rfl (by decide), each 10 _ rfl (by decide)⟩
end
end Go.Proofs.YtdgknofpkafppaaGreatDoor
