/- The contracts of the program's ids: New, has, Face, Version, Want, Add, Drop. -/
import Derived.Test.YtaeeheaghfehaaaDoorIdsA
import Derived.Test.YtaeeheaghfehaaaDoorLibK
import Derived.Lib.Builder
import Derived.Maps.OwnOps
namespace Go.Proofs.YtaeeheaghfehaaaDoor
open Go Go.RowKit

/-- ErrArg, ErrObject. -/
structure E2 (w : World) (es : List Addr) : Prop where
  arg : w.cell? ⟨0, 0, none⟩ = some (erv es 1)
  obj : w.cell? ⟨4, 0, none⟩ = some (erv es 5)

theorem E2.kp {X : List Nat} {w w' : World} {es : List Addr} (h : E2 w es) (hk : Kp X w w') (h1 : 0 ∉ X) (h2 : 4 ∉ X) : E2 w' es := ⟨hk.cell h.arg h1, hk.cell h.obj h2⟩
theorem E2.below {w w' : World} {es : List Addr} (h : E2 w es) (hb : Below w.heap.size w w') : E2 w' es := h.kp (kp_of_below hb []) (by simp) (by simp)

section
variable {H : Type} {P : Program} (w : World) {ops : Array Oper} {rest : List Oper} {o : Oper} {a : Act} {Q : Exit → Act → World → Prop}
/-- An entry of a map's literal. -/
theorem wpList_insert_in (hg : o.guard = none) (m x v : Operand) (t : TypeId) (hop : o.op = Op.insert t m x v)
    (k e : TypeId) (K : Maps.Keyed P k) (ht : P.underlying t = some (.map k e)) (R : Value → Option (DataW H × List MemPlace)) (b n : Nat) (D : DataW H)
    (hm : a.eval m = .map (some b)) (hown : w.ownsMap P k R b n D) (hn : n < maxLen) (key val : Value) (kl : Lit) (hx : a.eval x = key) (hv : a.eval v = val) (hkey : keyOf P k key = some kl)
    (d : DataW H) (ps : List MemPlace) (hval : R val = some (d, ps))
    (hK : ∀ w', w'.ownsMap P k R b (n + 1) (D.put kl d) → w.mapTurned w' b → wpList P ops Q rest (a.put o.dst undef) w') :
    wpList P ops Q (o :: rest) a w := by
  refine wpList_plain hg fun K' hK' => ?_
  obtain ⟨w', hrun, r1, r2⟩ := hown.store K ht hn hkey hval
  unfold Oper.wp
  simp [execOp, hop, hm, hx, hv, hrun, Result.andThen]
  exact hK' _ _ (hK w' r1 r2)
/-- 'm[k]', at whatever values. -/
theorem wpList_lookup_own (hg : o.guard = none) (m x : Operand) (t : TypeId) (hop : o.op = Op.lookup t m x false)
    (k e : TypeId) (K : Maps.Keyed P k) (ht : P.underlying t = some (.map k e)) (R : Value → Option (DataW H × List MemPlace)) {z : Value} (hz : (zeroValue e).run P w = .ok z w) (zd : DataW H) (zp : List MemPlace) (hzd : R z = some (zd, zp)) (b n : Nat) (D : DataW H)
    (hm : a.eval m = .map (some b)) (hown : w.ownsMap P k R b n D) (key : Value) (kl : Lit) (hx : a.eval x = key) (hkey : keyOf P k key = some kl)
    (hK : ∀ v ps, R v = some (D.atKey kl zd, ps) → wpList P ops Q rest (a.put o.dst v) w) :
    wpList P ops Q (o :: rest) a w := by
  refine wpList_plain hg fun K' hK' => ?_
  obtain ⟨v, ps, hrun, hv⟩ := hown.lookup K ht hz hzd hkey
  unfold Oper.wp
  simp [execOp, hop, hm, hx, hrun, Result.andThen]
  exact hK' _ _ (hK v ps hv)
end

/-- The table at p, its map at b, has just s. -/
structure Tb (base : Nat) (w : World) (p b : Nat) (s : Int → Int × Int) : Prop where
  lop : base ≤ p
  lob : base ≤ b
  ne : p ≠ b
  var : w.heap[p]? = some (.cells #[.map (some b)] 52 (0, 0))
  own : ∃ D, w.ownsMap Tryd.prog 3 objR b 255 D ∧ Rep D s
  gd : Gd s

theorem own_kp {X : List Nat} {w w' : World} {b n : Nat} {D : DataW Unit} (h : w.ownsMap Tryd.prog 3 objR b n D) (hk : Kp X w w') (hX : b ∉ X) : w'.ownsMap Tryd.prog 3 objR b n D := by
  obtain ⟨es, clock, hb, F, hs, hD⟩ := h
  exact ⟨es, clock, hk.var hb hX, F, hs, hD⟩

theorem Tb.kept {base : Nat} {w w' : World} {p b : Nat} {s : Int → Int × Int} {X : List Nat} (h : Tb base w p b s) (hk : Kp X w w') (hp : p ∉ X) (hb : b ∉ X) : Tb base w' p b s := by
  obtain ⟨D, h1, h2⟩ := h.own
  exact ⟨h.lop, h.lob, h.ne, hk.var h.var hp, ⟨D, own_kp h1 hk hb, h2⟩, h.gd⟩
theorem Tb.on {base : Nat} {w w' : World} {p b : Nat} {s : Int → Int × Int} (h : Tb base w p b s) (hb : Below w.heap.size w w') : Tb base w' p b s := h.kept (kp_of_below hb []) (by simp) (by simp)
theorem Tb.lt {base : Nat} {w : World} {p b : Nat} {s : Int → Int × Int} (h : Tb base w p b s) : p < w.heap.size ∧ b < w.heap.size := by
  obtain ⟨D, h1, _⟩ := h.own
  exact ⟨(Array.getElem?_eq_some_iff.1 h.var).1, h1.lt⟩
theorem Tb.turned {base : Nat} {w w' : World} {p b n : Nat} {s s' : Int → Int × Int} (h : Tb base w p b s) (ht : w.mapTurned w' b) {D : DataW Unit} (ho : w'.ownsMap Tryd.prog 3 objR b n D) (hR : Rep D s') (hg : Gd s') : Tb base w' p b s' :=
  ⟨h.lop, h.lob, h.ne, (kp_turned ht).var h.var (by simpa using h.ne), ⟨D, tight ho Tryd.underlying3 hR hg, hR⟩, hg⟩

theorem kInt (id : Int) (h : -9223372036854775808 ≤ id ∧ id ≤ 9223372036854775807) : keyOf Tryd.prog 3 (.int .i64 id) = some (.int .i64 id) :=
  Maps.keyOf_int_mk Tryd.underlying3 (by simp [Lit.wf, IntKind.min, IntKind.max, IntKind.signed, IntKind.bits]; omega)
theorem zObj (w : World) : (zeroValue 49).run Tryd.prog w = .ok (obv (0, 0)) w := by kernel_rfl

theorem fld0 (f v : Int) (w : World) : (Instr.field 49 (.agg #[.int .i64 f, .int .i64 v]) 0).run Tryd.prog w = .ok (.int .i64 f) w := by kernel_rfl
theorem fld1 (f v : Int) (w : World) : (Instr.field 49 (.agg #[.int .i64 f, .int .i64 v]) 1).run Tryd.prog w = .ok (.int .i64 v) w := by kernel_rfl

set_option maxRecDepth 100000 in
theorem new_any (w : World) : Calls Tryd.prog 6 #[] w fun e w' => e = .returned (.pointer (some ⟨w.heap.size + 1, 0, none⟩)) ∧ Below w.heap.size w w' ∧ ∀ base, base ≤ w.heap.size → Tb base w' (w.heap.size + 1) w.heap.size s0 := by
  have H0 := hid (World.ownsMap_made w Tryd.prog 3 objR)
  have hmm := @run_makeMap Tryd.prog
  go_enter Tryd.func6, Tryd.ntmps6
  go_wp2_with (refine wpList_insert_in _ rfl (.tmp 1) (.const (.int .i64 1)) (.tmp 2) 50 rfl 3 49 (Maps.int_keyed Tryd.underlying3) Tryd.underlying50 objR w.heap.size 0 _ rfl H0.out (by decide) _ _ _ rfl rfl (kInt 1 (by decide)) _ _ (objR_mk (1, 1)) ?_; intro w1 o1 t1)
  have hsz : w1.heap.size = w.heap.size + 1 := by
    obtain ⟨_, _, _, _, _, rfl⟩ := t1
    simp [ChangeMaps.setBlock]
  have hb : Below w.heap.size w w1 := ((Below.refl w.heap.size w).alloc (Nat.le_refl _) _).grown t1.grown (by simp) (fun k hk => by cases hk; exact Nat.le_refl _)
  go_ret
  rw [hsz]
  refine ⟨rfl, hb.alloc hb.size _, fun base hbase => ⟨by omega, hbase, by omega, ?_, ⟨_, (tight o1 Tryd.underlying3 (rep_empty.put ⟨[], rfl⟩ 1 (1, 1) (by decide)) gd0).alloc _, rep_empty.put ⟨[], rfl⟩ 1 (1, 1) (by decide)⟩, gd0⟩⟩
  rw [← hsz]
  exact heap_alloc_new w1 _

set_option maxRecDepth 100000 in
theorem has_any (base : Nat) (w : World) (p b : Nat) (s : Int → Int × Int) (hT : Tb base w p b s) (id : Int) (hi : -9223372036854775808 ≤ id ∧ id ≤ 9223372036854775807) :
    Calls Tryd.prog 25 #[.pointer (some ⟨p, 0, none⟩), .int .i64 id] w fun e w' => e = .returned (.bool (!decide ((s id).1 = 0))) ∧ Below w.heap.size w w' := by
  obtain ⟨D, ho, hR⟩ := hT.own
  have HO := hid ho
  have HA := hid (hR id)
  have HZ := hid (zObj w)
  have HK := hid (kInt id hi)
  have c0 : w.cell? ⟨p, 0, none⟩ = some (.map (some b)) := by rw [Lib.cell_of_heap hT.var]; rfl
  clear hT ho hR
  go_enter Tryd.func25, Tryd.ntmps25
  go_wp2_with (at_lookup; refine wpList_lookup_own_ok _ rfl (.tmp 11) (.tmp 12) 50 rfl 3 49 (Maps.int_keyed Tryd.underlying3) Tryd.underlying50 objR HZ.out _ _ (objR_mk (0, 0)) b 255 D rfl HO.out _ _ rfl HK.out ?_; intro v ps hv; rw [HA.out.2] at hv; obtain rfl := objR_inv hv; rw [HA.out.1, obv, show decide ((s id).1 ≠ 0) = !decide ((s id).1 = 0) from by simp]; clear hv)
  go_ret
  exact ⟨rfl, by refine (Below.refl _ _).alloc (Nat.le_refl _) _⟩

set_option maxRecDepth 100000 in
theorem face_any (base : Nat) (w : World) (p b : Nat) (s : Int → Int × Int) (hT : Tb base w p b s) (id : Int) (hi : -9223372036854775808 ≤ id ∧ id ≤ 9223372036854775807) :
    Calls Tryd.prog 16 #[.pointer (some ⟨p, 0, none⟩), .int .i64 id] w fun e w' => e = .returned (.int .i64 (s id).1) ∧ w' = w := by
  obtain ⟨D, ho, hR⟩ := hT.own
  have HO := hid ho
  have HA := hid (hR id)
  have HZ := hid (zObj w)
  have HK := hid (kInt id hi)
  have c0 : w.cell? ⟨p, 0, none⟩ = some (.map (some b)) := by rw [Lib.cell_of_heap hT.var]; rfl
  clear hT ho hR
  have hf := fld0
  go_enter Tryd.func16, Tryd.ntmps16
  go_wp2_with (at_lookup; refine wpList_lookup_own _ rfl (.tmp 8) (.tmp 9) 50 rfl 3 49 (Maps.int_keyed Tryd.underlying3) Tryd.underlying50 objR HZ.out _ _ (objR_mk (0, 0)) b 255 D rfl HO.out _ _ rfl HK.out ?_; intro v ps hv; rw [HA.out.2] at hv; obtain rfl := objR_inv hv; rw [obv]; clear hv)
  go_ret
  exact ⟨rfl, rfl⟩

set_option maxRecDepth 100000 in
theorem version_any (base : Nat) (w : World) (p b : Nat) (s : Int → Int × Int) (hT : Tb base w p b s) (id : Int) (hi : -9223372036854775808 ≤ id ∧ id ≤ 9223372036854775807) :
    Calls Tryd.prog 18 #[.pointer (some ⟨p, 0, none⟩), .int .i64 id] w fun e w' => e = .returned (.int .i64 (s id).2) ∧ w' = w := by
  obtain ⟨D, ho, hR⟩ := hT.own
  have HO := hid ho
  have HA := hid (hR id)
  have HZ := hid (zObj w)
  have HK := hid (kInt id hi)
  have c0 : w.cell? ⟨p, 0, none⟩ = some (.map (some b)) := by rw [Lib.cell_of_heap hT.var]; rfl
  clear hT ho hR
  have hf := fld1
  go_enter Tryd.func18, Tryd.ntmps18
  go_wp2_with (at_lookup; refine wpList_lookup_own _ rfl (.tmp 8) (.tmp 9) 50 rfl 3 49 (Maps.int_keyed Tryd.underlying3) Tryd.underlying50 objR HZ.out _ _ (objR_mk (0, 0)) b 255 D rfl HO.out _ _ rfl HK.out ?_; intro v ps hv; rw [HA.out.2] at hv; obtain rfl := objR_inv hv; rw [obv]; clear hv)
  go_ret
  exact ⟨rfl, rfl⟩

def wantE (s : Int → Int × Int) (id face : Int) : Nat := if (s id).1 = 0 ∨ (s id).1 ≠ face then 5 else 0

set_option maxRecDepth 100000 in
theorem want_any (base : Nat) (w : World) (es : List Addr) (hE : E2 w es) (p b : Nat) (s : Int → Int × Int) (hT : Tb base w p b s) (id face : Int) (hi : -9223372036854775808 ≤ id ∧ id ≤ 9223372036854775807) :
    Calls Tryd.prog 12 #[.pointer (some ⟨p, 0, none⟩), .int .i64 id, .int .i64 face] w fun e w' => e = .returned (erv es (wantE s id face)) ∧ Below w.heap.size w w' := by
  have HH := hid (has_any base w p b s hT id hi)
  have HF := hid (fun u hu => face_any base u p b s (hT.on (w' := u) hu) id hi)
  have HE := hid (fun u hu => (hE.below (w' := u) hu).obj)
  have HL : Hid (∀ u : World, Below w.heap.size w u → 4 < u.heap.size) := fun u hu => World.block_lt_of_cell? u _ (hE.below hu).obj
  obtain ⟨F, hF⟩ : ∃ F, F = (s id).1 := ⟨_, rfl⟩
  have HW : Hid (wantE s id face = if F = 0 ∨ F ≠ face then 5 else 0) := by rw [hF]; rfl
  rw [← hF] at HH HF
  clear hT hE hF
  by_cases h0 : F = 0
  · rw [decide_eq_true h0, Bool.not_true] at HH
    go_enter Tryd.func12, Tryd.ntmps12
    go_wp2_with fail
    refine HH.out.mono ?_
    rintro e w1 ⟨rfl, hb⟩
    have c1 := HE.out _ hb
    have l1 := HL.out _ hb
    go_wp2
    go_ret
    rw [HW.out, if_pos (.inl h0)]
    exact ⟨rfl, hb⟩
  · rw [decide_eq_false h0, Bool.not_false] at HH
    by_cases h1 : F = face
    · go_enter Tryd.func12, Tryd.ntmps12
      go_wp2_with fail
      refine HH.out.mono ?_
      rintro e w1 ⟨rfl, hb⟩
      go_wp2_with fail
      refine (HF.out _ hb).mono ?_
      rintro e w2 ⟨rfl, rfl⟩
      have c1 := HE.out _ hb
      have l1 := HL.out _ hb
      go_wp2
      go_ret
      rw [HW.out, if_neg (by omega)]
      exact ⟨rfl, hb⟩
    · go_enter Tryd.func12, Tryd.ntmps12
      go_wp2_with fail
      refine HH.out.mono ?_
      rintro e w1 ⟨rfl, hb⟩
      go_wp2_with fail
      refine (HF.out _ hb).mono ?_
      rintro e w2 ⟨rfl, rfl⟩
      have c1 := HE.out _ hb
      have l1 := HL.out _ hb
      go_wp2
      go_ret
      rw [HW.out, if_pos (.inr h1)]
      exact ⟨rfl, hb⟩

def addE (s : Int → Int × Int) (id f v : Int) : Nat := if f < 1 ∨ 17 < f ∨ v < 1 then 1 else if id ≤ 1 ∨ 255 < id ∨ (s id).1 ≠ 0 then 5 else 0
def addS (s : Int → Int × Int) (id f v : Int) : Int → Int × Int := if addE s id f v = 0 then upd s id (f, v) else s

/-- Add's answer. -/
def Added (base : Nat) (w : World) (es : List Addr) (p b : Nat) (s : Int → Int × Int) (id f v : Int) (e : Ending) (w' : World) : Prop :=
  e = .returned (erv es (addE s id f v)) ∧ Tb base w' p b (addS s id f v) ∧ Kp [b] w w'

theorem added_no {base : Nat} {w w' : World} {es : List Addr} {p b : Nat} {s : Int → Int × Int} {id f v : Int} (hT : Tb base w p b s) (hb : Below w.heap.size w w') (k : Nat) (hk : addE s id f v = k + 1) : Added base w es p b s id f v (.returned (erv es (k + 1))) w' := by
  refine ⟨by rw [hk], ?_, kp_of_below hb _⟩
  rw [addS, hk, if_neg (by omega)]
  exact hT.on hb

set_option maxRecDepth 100000 in
theorem add_arg (base : Nat) (w : World) (es : List Addr) (hE : E2 w es) (p b : Nat) (s : Int → Int × Int) (hT : Tb base w p b s) (id f v : Int) (hk : f < 1 ∨ 17 < f ∨ v < 1) :
    Calls Tryd.prog 14 #[.pointer (some ⟨p, 0, none⟩), .int .i64 id, .int .i64 f, .int .i64 v] w fun e w' => Added base w es p b s id f v e w' := by
  have hc := hE.arg
  have hl := World.block_lt_of_cell? w _ hc
  have HT := hid (added_no (id := id) (f := f) (v := v) (es := es) hT (Below.refl _ _) 0 (by rw [addE, if_pos hk]))
  clear hT hE
  by_cases h1 : f < 1
  · have e1 : decide (f < 1) = true := decide_eq_true h1
    go_enter Tryd.func14, Tryd.ntmps14
    go_wp2
    go_ret
    exact HT.out
  · have e1 : decide (f < 1) = false := decide_eq_false h1
    by_cases h2 : 17 < f
    · have e2 : decide (17 < f) = true := decide_eq_true h2
      go_enter Tryd.func14, Tryd.ntmps14
      go_wp2
      go_ret
      exact HT.out
    · have e2 : decide (17 < f) = false := decide_eq_false h2
      have e3 : decide (v < 1) = true := decide_eq_true (by omega)
      go_enter Tryd.func14, Tryd.ntmps14
      go_wp2
      go_ret
      exact HT.out

set_option maxRecDepth 100000 in
theorem add_obj (base : Nat) (w : World) (es : List Addr) (hE : E2 w es) (p b : Nat) (s : Int → Int × Int) (hT : Tb base w p b s) (id f v : Int) (hi : -9223372036854775808 ≤ id ∧ id ≤ 9223372036854775807) (ha : ¬ (f < 1 ∨ 17 < f ∨ v < 1)) (hk : id ≤ 1 ∨ 255 < id ∨ (s id).1 ≠ 0) :
    Calls Tryd.prog 14 #[.pointer (some ⟨p, 0, none⟩), .int .i64 id, .int .i64 f, .int .i64 v] w fun e w' => Added base w es p b s id f v e w' := by
  have hc := hE.obj
  have hl := World.block_lt_of_cell? w _ hc
  have HE := hid (fun u hu => (hE.below (w' := u) hu).obj)
  have HL : Hid (∀ u : World, Below w.heap.size w u → 4 < u.heap.size) := fun u hu => World.block_lt_of_cell? u _ (hE.below hu).obj
  have HT := hid (fun u hb => added_no (w' := u) (id := id) (f := f) (v := v) (es := es) hT hb 4 (by rw [addE, if_neg ha, if_pos hk]))
  have HH := hid (has_any base w p b s hT id hi)
  have e1 : decide (f < 1) = false := decide_eq_false (by omega)
  have e2 : decide (17 < f) = false := decide_eq_false (by omega)
  have e3 : decide (v < 1) = false := decide_eq_false (by omega)
  clear hT hE
  by_cases h1 : id ≤ 1
  · have e4 : decide (id ≤ 1) = true := decide_eq_true h1
    go_enter Tryd.func14, Tryd.ntmps14
    go_wp2
    go_ret
    exact HT.out _ (Below.refl _ _)
  · have e4 : decide (id ≤ 1) = false := decide_eq_false h1
    by_cases h2 : 255 < id
    · have e5 : decide (255 < id) = true := decide_eq_true h2
      go_enter Tryd.func14, Tryd.ntmps14
      go_wp2
      go_ret
      exact HT.out _ (Below.refl _ _)
    · have e5 : decide (255 < id) = false := decide_eq_false h2
      rw [decide_eq_false (show ¬ (s id).1 = 0 by omega), Bool.not_false] at HH
      go_enter Tryd.func14, Tryd.ntmps14
      go_wp2_with fail
      refine HH.out.mono ?_
      rintro e w1 ⟨rfl, hb⟩
      have c1 := HE.out _ hb
      have l1 := HL.out _ hb
      go_wp2
      go_ret
      exact HT.out _ hb

set_option maxRecDepth 100000 in
theorem add_ok (base : Nat) (w : World) (es : List Addr) (p b : Nat) (s : Int → Int × Int) (hT : Tb base w p b s) (id f v : Int) (hi : -9223372036854775808 ≤ id ∧ id ≤ 9223372036854775807) (ha : ¬ (f < 1 ∨ 17 < f ∨ v < 1)) (hk : ¬ (id ≤ 1 ∨ 255 < id ∨ (s id).1 ≠ 0)) :
    Calls Tryd.prog 14 #[.pointer (some ⟨p, 0, none⟩), .int .i64 id, .int .i64 f, .int .i64 v] w fun e w' => Added base w es p b s id f v e w' := by
  have hs : addE s id f v = 0 := by rw [addE, if_neg ha, if_neg hk]
  have HT : Hid (∀ u, Below w.heap.size w u → ∃ D, u.ownsMap Tryd.prog 3 objR b 255 D ∧ u.cell? ⟨p, 0, none⟩ = some (.map (some b)) ∧ p < u.heap.size ∧ ∀ u', u'.ownsMap Tryd.prog 3 objR b (255 + 1) (D.put (.int .i64 id) (dat (f, v))) → u.mapTurned u' b → Added base w es p b s id f v (.returned .nilIface) u') := fun u hu => by
    have h := hT.on hu
    obtain ⟨D, ho, hR⟩ := h.own
    refine ⟨D, ho, by rw [Lib.cell_of_heap h.var]; rfl, h.lt.1, fun u' ho' ht => ⟨by rw [hs]; rfl, ?_, (kp_of_below hu [b]).trans (kp_turned ht) (fun k hk _ => hk)⟩⟩
    rw [addS, hs, if_pos rfl]
    exact h.turned ht ho' (hR.put ho.isMap id (f, v) (by simp only; omega)) (h.gd.upd (by omega) (by simp only; omega))
  have HH := hid (has_any base w p b s hT id hi)
  have e1 : decide (f < 1) = false := decide_eq_false (by omega)
  have e2 : decide (17 < f) = false := decide_eq_false (by omega)
  have e3 : decide (v < 1) = false := decide_eq_false (by omega)
  have e4 : decide (id ≤ 1) = false := decide_eq_false (by omega)
  have e5 : decide (255 < id) = false := decide_eq_false (by omega)
  have HK := hid (kInt id hi)
  rw [decide_eq_true (show (s id).1 = 0 by omega), Bool.not_true] at HH
  clear hT
  go_enter Tryd.func14, Tryd.ntmps14
  go_wp2_with fail
  refine HH.out.mono ?_
  rintro e w1 ⟨rfl, hb⟩
  obtain ⟨D, hO, c1, l1, hN⟩ := HT.out _ hb
  have HO := hid hO
  have HN := hid hN
  clear hO hN HT HH
  go_wp2_with (refine wpList_mapUpdate_in _ rfl (.tmp 35) (.tmp 36) (.tmp 39) 50 rfl 3 49 (Maps.int_keyed Tryd.underlying3) Tryd.underlying50 objR b 255 D rfl HO.out (by decide) _ _ _ rfl rfl HK.out _ _ (objR_mk (f, v)) ?_; intro w2 o2 t2; have HA := hid (HN.out _ o2 t2); clear o2 t2)
  go_ret
  exact HA.out

theorem add_any (base : Nat) (w : World) (es : List Addr) (hE : E2 w es) (p b : Nat) (s : Int → Int × Int) (hT : Tb base w p b s) (id f v : Int) (hi : -9223372036854775808 ≤ id ∧ id ≤ 9223372036854775807) :
    Calls Tryd.prog 14 #[.pointer (some ⟨p, 0, none⟩), .int .i64 id, .int .i64 f, .int .i64 v] w fun e w' => Added base w es p b s id f v e w' := by
  by_cases ha : f < 1 ∨ 17 < f ∨ v < 1
  · exact add_arg base w es hE p b s hT id f v ha
  · by_cases hk : id ≤ 1 ∨ 255 < id ∨ (s id).1 ≠ 0
    · exact add_obj base w es hE p b s hT id f v hi ha hk
    · exact add_ok base w es p b s hT id f v hi ha hk

def dropE (s : Int → Int × Int) (id : Int) : Nat := if id = 1 ∨ (s id).1 = 0 then 5 else 0
def dropS (s : Int → Int × Int) (id : Int) : Int → Int × Int := if dropE s id = 0 then upd s id (0, 0) else s

/-- Drop's answer. -/
def Dropped (base : Nat) (w : World) (es : List Addr) (p b : Nat) (s : Int → Int × Int) (id : Int) (e : Ending) (w' : World) : Prop :=
  e = .returned (erv es (dropE s id)) ∧ Tb base w' p b (dropS s id) ∧ Kp [b] w w'

theorem dropped_no {base : Nat} {w w' : World} {es : List Addr} {p b : Nat} {s : Int → Int × Int} {id : Int} (hT : Tb base w p b s) (hb : Below w.heap.size w w') (k : Nat) (hk : dropE s id = k + 1) : Dropped base w es p b s id (.returned (erv es (k + 1))) w' := by
  refine ⟨by rw [hk], ?_, kp_of_below hb _⟩
  rw [dropS, hk, if_neg (by omega)]
  exact hT.on hb

set_option maxRecDepth 100000 in
theorem drop_any (base : Nat) (w : World) (es : List Addr) (hE : E2 w es) (p b : Nat) (s : Int → Int × Int) (hT : Tb base w p b s) (id : Int) (hi : -9223372036854775808 ≤ id ∧ id ≤ 9223372036854775807) :
    Calls Tryd.prog 10 #[.pointer (some ⟨p, 0, none⟩), .int .i64 id] w fun e w' => Dropped base w es p b s id e w' := by
  have hc := hE.obj
  have hl := World.block_lt_of_cell? w _ hc
  have HE := hid (fun u hu => (hE.below (w' := u) hu).obj)
  have HL : Hid (∀ u : World, Below w.heap.size w u → 4 < u.heap.size) := fun u hu => World.block_lt_of_cell? u _ (hE.below hu).obj
  have HH := hid (has_any base w p b s hT id hi)
  have HK := hid (kInt id hi)
  by_cases hk : id = 1 ∨ (s id).1 = 0
  · have HT := hid (fun u hb => dropped_no (w' := u) (id := id) (es := es) hT hb 4 (by rw [dropE, if_pos hk]))
    clear hT hE
    by_cases h1 : id = 1
    · have e1 : decide (id = 1) = true := decide_eq_true h1
      subst h1
      go_enter Tryd.func10, Tryd.ntmps10
      go_wp2
      go_ret
      exact HT.out _ (Below.refl _ _)
    · rw [decide_eq_true (show (s id).1 = 0 by omega), Bool.not_true] at HH
      go_enter Tryd.func10, Tryd.ntmps10
      go_wp2_with fail
      refine HH.out.mono ?_
      rintro e w1 ⟨rfl, hb⟩
      have c1 := HE.out _ hb
      have l1 := HL.out _ hb
      go_wp2
      go_ret
      exact HT.out _ hb
  · have h1 : ¬ id = 1 := by omega
    have hs : dropE s id = 0 := by rw [dropE, if_neg hk]
    have HT : Hid (∀ u, Below w.heap.size w u → ∃ D, u.ownsMap Tryd.prog 3 objR b 255 D ∧ u.cell? ⟨p, 0, none⟩ = some (.map (some b)) ∧ p < u.heap.size ∧ ∀ u', u'.ownsMap Tryd.prog 3 objR b 255 (D.del (.int .i64 id)) → u.mapTurned u' b → Dropped base w es p b s id (.returned .nilIface) u') := fun u hu => by
      have h := hT.on hu
      obtain ⟨D, ho, hR⟩ := h.own
      refine ⟨D, ho, by rw [Lib.cell_of_heap h.var]; rfl, h.lt.1, fun u' ho' ht => ⟨by rw [hs]; rfl, ?_, (kp_of_below hu [b]).trans (kp_turned ht) (fun k hk _ => hk)⟩⟩
      rw [dropS, hs, if_pos rfl]
      exact h.turned ht ho' (hR.del id) (h.gd.del id)
    rw [decide_eq_false (show ¬ (s id).1 = 0 by omega), Bool.not_false] at HH
    clear hT hE hk
    go_enter Tryd.func10, Tryd.ntmps10
    go_wp2_with fail
    refine HH.out.mono ?_
    rintro e w1 ⟨rfl, hb⟩
    obtain ⟨D, hO, c1, l1, hN⟩ := HT.out _ hb
    have HO := hid hO
    have HN := hid hN
    clear hO hN HT HH
    go_wp2_with (at_delete; refine wpList_delete_own _ rfl (.tmp 17) (.tmp 18) 50 3 rfl 49 (Maps.int_keyed Tryd.underlying3) Tryd.underlying50 objR b 255 D rfl HO.out _ _ rfl HK.out ?_; intro w2 o2 t2; have HA := hid (HN.out _ o2 t2); clear o2 t2)
    go_ret
    exact HA.out
end Go.Proofs.YtaeeheaghfehaaaDoor
