/- The contracts of the program's memory: New, within, byteAt, Size, Set. -/
import Derived.Test.YtbolncddklgecaaDoorMemA
import Derived.Laws.CopyRow
namespace Go.Proofs.YtbolncddklgecaaDoor
open Go Go.RowKit

/-- ErrArg, ErrStride, ErrFile. -/
structure E3 (w : World) (es : List Addr) : Prop where
  arg : w.cell? ⟨0, 0, none⟩ = some (erv es 1)
  stride : w.cell? ⟨7, 0, none⟩ = some (erv es 8)
  file : w.cell? ⟨8, 0, none⟩ = some (erv es 9)

theorem E3.below {w w' : World} {es : List Addr} (h : E3 w es) (hb : Below w.heap.size w w') : E3 w' es :=
  ⟨(kp_of_below hb []).cell h.arg (by simp), (kp_of_below hb []).cell h.stride (by simp), (kp_of_below hb []).cell h.file (by simp)⟩

/-- The memories at p, their map at b, are s. -/
structure Mm (base : Nat) (w : World) (p b : Nat) (s : Int → Mo) : Prop where
  lop : base ≤ p
  lob : base ≤ b
  ne : p ≠ b
  var : w.heap[p]? = some (.cells #[.map (some b)] 55 (0, 0))
  own : ∃ D, w.ownsMap Tryd.prog 3 slR b 255 D ∧ Mep D s
  dom : Mdom s
  row : ∀ k q, s k = some q → base ≤ q.1 ∧ q.1 ≠ p ∧ q.1 ≠ b ∧ w.heap[q.1]? = some (.cells (bc q.2).toArray 5 (0, 0)) ∧ q.2.length ≤ 65536
  apart : ∀ k k' q q', s k = some q → s k' = some q' → q.1 = q'.1 → k = k'

theorem mown_kp {X : List Nat} {w w' : World} {b n : Nat} {D : DataW Unit} (h : w.ownsMap Tryd.prog 3 slR b n D) (hk : Kp X w w') (hX : b ∉ X) : w'.ownsMap Tryd.prog 3 slR b n D := by
  obtain ⟨es, clock, hb, F, hs, hD⟩ := h
  exact ⟨es, clock, hk.var hb hX, F, hs, hD⟩

theorem Mm.kept {base : Nat} {w w' : World} {p b : Nat} {s : Int → Mo} {X : List Nat} (h : Mm base w p b s) (hk : Kp X w w') (hp : p ∉ X) (hb : b ∉ X) (hr : ∀ k q, s k = some q → q.1 ∉ X) : Mm base w' p b s := by
  obtain ⟨D, h1, h2⟩ := h.own
  exact ⟨h.lop, h.lob, h.ne, hk.var h.var hp, ⟨D, mown_kp h1 hk hb, h2⟩, h.dom, fun k q e => by
    obtain ⟨r1, r2, r3, r4, r5⟩ := h.row k q e
    exact ⟨r1, r2, r3, hk.var r4 (hr k q e), r5⟩, h.apart⟩
theorem Mm.on {base : Nat} {w w' : World} {p b : Nat} {s : Int → Mo} (h : Mm base w p b s) (hb : Below w.heap.size w w') : Mm base w' p b s := h.kept (kp_of_below hb []) (by simp) (by simp) (fun _ _ _ => by simp)
theorem Mm.lt {base : Nat} {w : World} {p b : Nat} {s : Int → Mo} (h : Mm base w p b s) : p < w.heap.size ∧ b < w.heap.size := by
  obtain ⟨D, h1, _⟩ := h.own
  exact ⟨(Array.getElem?_eq_some_iff.1 h.var).1, h1.lt⟩
theorem Mm.rlt {base : Nat} {w : World} {p b : Nat} {s : Int → Mo} (h : Mm base w p b s) {k : Int} {q : Nat × List UInt8} (e : s k = some q) : q.1 < w.heap.size := (Array.getElem?_eq_some_iff.1 (h.row k q e).2.2.2.1).1
theorem Mm.low {base base' : Nat} {w : World} {p b : Nat} {s : Int → Mo} (h : Mm base w p b s) (hb : base' ≤ base) : Mm base' w p b s :=
  ⟨Nat.le_trans hb h.lop, Nat.le_trans hb h.lob, h.ne, h.var, h.own, h.dom, fun k q e => by
    obtain ⟨r1, r⟩ := h.row k q e
    exact ⟨Nat.le_trans hb r1, r⟩, h.apart⟩

theorem kInt (id : Int) (h : -9223372036854775808 ≤ id ∧ id ≤ 9223372036854775807) : keyOf Tryd.prog 3 (.int .i64 id) = some (.int .i64 id) :=
  Maps.keyOf_int_mk Tryd.underlying3 (by simp [Lit.wf, IntKind.min, IntKind.max, IntKind.signed, IntKind.bits]; omega)
theorem zSl (w : World) : (zeroValue 26).run Tryd.prog w = .ok (.slice none 0 0) w := by kernel_rfl

section
variable {H : Type} {P : Program} (w : World) {ops : Array Oper} {rest : List Oper} {o : Oper} {a : Act} {Q : Exit → Act → World → Prop}
/-- 'm[k]', at whatever values. -/
theorem wpList_lookup_own (hg : o.guard = none) (m x : Operand) (t : TypeId) (hop : o.op = Op.lookup t m x false)
    (k e : TypeId) (K : Maps.Keyed P k) (ht : P.underlying t = some (.map k e)) (R : Value → Option (DataW H × List MemPlace)) {z : Value} (hz : (zeroValue e).run P w = .ok z w) (zd : DataW H) (zp : List MemPlace) (hzd : R z = some (zd, zp)) (b n : Nat) (D : DataW H)
    (hm : a.eval m = .map (some b)) (hown : w.ownsMap P k R b n D) (key : Value) (kl : Lit) (hx : a.eval x = key) (hkey : keyOf P k key = some kl)
    (hK : ∀ v ps, R v = some (D.atKey kl zd, ps) → wpList P ops Q rest (a.put o.dst v) w) :
    wpList P ops Q (o :: rest) a w := by
  refine wpList_plain hg fun K' hK' => ?_
  obtain ⟨v, ps, hrun, hv⟩ := hown.lookup K ht hz hzd hkey
  unfold Oper.wp
  simp [execOp, hop, hm, hx, hrun, Result.andThen]
  exact hK' _ _ (hK v ps hv)
end

set_option maxRecDepth 100000 in
theorem mnew_any (w : World) : Calls Tryd.prog 7 #[] w fun e w' => e = .returned (.pointer (some ⟨w.heap.size + 1, 0, none⟩)) ∧ Below w.heap.size w w' ∧ ∀ base, base ≤ w.heap.size → Mm base w' (w.heap.size + 1) w.heap.size (fun _ => none) := by
  have H0 := hid (World.ownsMap_made w Tryd.prog 3 slR)
  have hmm := @run_makeMap Tryd.prog
  go_enter Tryd.func7, Tryd.ntmps7
  go_wp2
  go_ret
  have hb : Below w.heap.size w (w.alloc (.map #[] 0)) := (Below.refl w.heap.size w).alloc (Nat.le_refl _) _
  refine ⟨by simp, hb.alloc hb.size _, fun base hbase => ⟨by omega, hbase, by omega, ?_, ⟨_, (mtight H0.out Tryd.underlying3 mep_empty (fun k h => by cases h)).alloc _, mep_empty⟩, (fun k h => by cases h), (fun k q h => by cases h), (fun k k' q q' h => by cases h)⟩⟩
  have := heap_alloc_new (w.alloc (.map #[] 0)) (.cells #[.map (some w.heap.size)] 55 (0, 0))
  simpa using this

theorem within_any (size at_ n : Int) (w : World) (h0 : 0 ≤ size ∧ size ≤ 65536) (_ha : -9223372036854775808 ≤ at_ ∧ at_ ≤ 9223372036854775807) (hn : -9223372036854775808 ≤ n ∧ n ≤ 9223372036854775807) :
    Calls Tryd.prog 23 #[.int .i64 size, .int .i64 at_, .int .i64 n] w fun e w' => e = .returned (.bool (inn size at_ n)) ∧ w' = w := by
  by_cases h1 : 0 ≤ at_
  · have e1 : decide (0 ≤ at_) = true := decide_eq_true h1
    by_cases h2 : 0 ≤ n
    · have e2 : decide (0 ≤ n) = true := decide_eq_true h2
      have hr : -9223372036854775808 ≤ size - n ∧ size - n ≤ 9223372036854775807 := by omega
      have HI : Hid (inn size at_ n = decide (at_ ≤ size - n)) := by rw [Hid, inn, e1, e2]; rfl
      go_enter Tryd.func23, Tryd.ntmps23
      go_wp2
      go_ret
      rw [HI.out]
      exact ⟨rfl, rfl⟩
    · have e2 : decide (0 ≤ n) = false := decide_eq_false h2
      have HI : Hid (inn size at_ n = false) := by rw [Hid, inn, e1, e2]; rfl
      go_enter Tryd.func23, Tryd.ntmps23
      go_wp2
      go_ret
      rw [HI.out]
      exact ⟨rfl, rfl⟩
  · have e1 : decide (0 ≤ at_) = false := decide_eq_false h1
    have HI : Hid (inn size at_ n = false) := by rw [Hid, inn, e1]; rfl
    go_enter Tryd.func23, Tryd.ntmps23
    go_wp2
    go_ret
    rw [HI.out]
    exact ⟨rfl, rfl⟩

set_option maxRecDepth 100000 in
theorem byteAt_any (w : World) (a : Option Addr) (n c : Nat) (l : List UInt8) (hr : Rd w a n c l) (hn : n ≤ 65536) (i : Int) (_hi : -9223372036854775808 ≤ i ∧ i ≤ 9223372036854775807) :
    Calls Tryd.prog 25 #[.slice a n c, .int .i64 i] w fun e w' => e = .returned (.int .u8 (bt l i : Nat)) ∧ w' = w := by
  have hl := hr.len
  by_cases h1 : i < 0
  · have e1 : decide (i < 0) = true := decide_eq_true h1
    have HI : Hid (bt l i = 0) := by rw [Hid, bt, if_pos h1]
    go_enter Tryd.func25, Tryd.ntmps25
    go_wp2
    go_ret
    rw [HI.out]
    exact ⟨rfl, rfl⟩
  · have e1 : decide (i < 0) = false := decide_eq_false h1
    by_cases h2 : (n : Int) ≤ i
    · have e2 : decide ((n : Int) ≤ i) = true := decide_eq_true h2
      have HI : Hid (bt l i = 0) := bt_far l i (by omega)
      go_enter Tryd.func25, Tryd.ntmps25
      go_wp2
      go_ret
      rw [HI.out]
      exact ⟨rfl, rfl⟩
    · have e2 : decide ((n : Int) ≤ i) = false := decide_eq_false h2
      obtain ⟨k, rfl⟩ : ∃ k : Nat, i = k := ⟨i.toNat, by omega⟩
      have hk : k < n := by omega
      obtain ⟨b, off, rfl, hb, hc⟩ := hr.plain (by omega)
      have c0 := hc k (by omega)
      have hle := hr.le
      have HI : Hid (bt l (k : Int) = l[k].toNat) := by
        rw [Hid, bt, if_neg h1, show ((k : Int)).toNat = k by omega, List.getD, List.getElem?_eq_getElem (by omega)]
        rfl
      generalize l[k].toNat = z at *
      clear hc hr
      go_enter Tryd.func25, Tryd.ntmps25
      go_wp2
      go_ret
      rw [HI.out]
      exact ⟨rfl, rfl⟩

theorem slv_shape (q : Mo) : ∃ ao m, slv q = .slice ao m m ∧ m = (by_ q).length := by
  cases q with
  | none => exact ⟨none, 0, rfl, rfl⟩
  | some q => exact ⟨_, _, rfl, rfl⟩

/-- A memory's bytes as a slice. -/
theorem Mm.rd {base : Nat} {w : World} {p b : Nat} {s : Int → Mo} (h : Mm base w p b s) (k : Int) : ∃ ao m, slv (s k) = .slice ao m m ∧ Rd w ao m m (by_ (s k)) ∧ m ≤ 65536 := by
  cases e : s k with
  | none => exact ⟨none, 0, rfl, Rd.nil w, by omega⟩
  | some q =>
    obtain ⟨r1, r2, r3, r4, r5⟩ := h.row k q e
    refine ⟨_, _, rfl, ⟨rfl, Nat.le_refl _, by simp only [maxLen]; omega, (fun h => by cases h), fun x hx j u hu => ?_⟩, r5⟩
    cases hx
    rw [Go.WideShapes.add_plain, Lib.cell_of_heap r4, Nat.zero_add]
    have hu' : (bc q.2)[j]? = some u := hu
    simpa using hu'

def szI (q : Mo) : Int := match q with
  | none => -1
  | some q => q.2.length

set_option maxRecDepth 100000 in
theorem msize_any (base : Nat) (w : World) (p b : Nat) (s : Int → Mo) (hT : Mm base w p b s) (k : Int) (hi : -9223372036854775808 ≤ k ∧ k ≤ 9223372036854775807) :
    Calls Tryd.prog 18 #[.pointer (some ⟨p, 0, none⟩), .int .i64 k] w fun e w' => e = .returned (.int .i64 (szI (s k))) ∧ w' = w := by
  obtain ⟨D, ho, hR⟩ := hT.own
  have HO := hid ho
  have HA := hid (hR k)
  have HZ := hid (zSl w)
  have HK := hid (kInt k hi)
  have c0 : w.cell? ⟨p, 0, none⟩ = some (.map (some b)) := by rw [Lib.cell_of_heap hT.var]; rfl
  obtain ⟨ao, m, hv, _, hm⟩ := hT.rd k
  have HV := hid hv
  cases e : s k with
  | none =>
    rw [e] at HA HV
    clear hT ho hR hv e
    go_enter Tryd.func18, Tryd.ntmps18
    go_wp2_with (at_lookup; refine wpList_lookup_own_ok _ rfl (.tmp 11) (.tmp 12) 53 rfl 3 26 (Maps.int_keyed Tryd.underlying3) Tryd.underlying53 slR HZ.out _ _ (slR_mk none) b 255 D rfl HO.out _ _ rfl HK.out ?_; intro v ps hv; rw [show dtm none = DataW.nil from rfl, HA.out.2] at hv; obtain rfl := slR_inv hv; rw [HA.out.1, HV.out, Option.isSome_none]; clear hv)
    go_ret
    exact ⟨rfl, rfl⟩
  | some q =>
    rw [e] at HA HV
    have hm2 : m = q.2.length := by have := HV.out; simp only [slv, Value.slice.injEq] at this; omega
    have HI : Hid (szI (some q) = m) := by rw [Hid, hm2]; rfl
    clear hT ho hR hv e hm2
    go_enter Tryd.func18, Tryd.ntmps18
    go_wp2_with (at_lookup; refine wpList_lookup_own_ok _ rfl (.tmp 11) (.tmp 12) 53 rfl 3 26 (Maps.int_keyed Tryd.underlying3) Tryd.underlying53 slR HZ.out _ _ (slR_mk none) b 255 D rfl HO.out _ _ rfl HK.out ?_; intro v ps hv; rw [show dtm none = DataW.nil from rfl, HA.out.2] at hv; obtain rfl := slR_inv hv; rw [HA.out.1, HV.out, Option.isSome_some]; clear hv)
    go_ret
    rw [HI.out]
    exact ⟨rfl, rfl⟩
end Go.Proofs.YtbolncddklgecaaDoor
