/- Laws on slices of bytes that a call makes or reads, over any program: what an append leaves of a row of the call's own, whatever is appended (a slice, nil, a string). No condition but the sizes that Go's own append asks. -/
import Derived.WalkKit
import Derived.ProofKit
import Derived.Deep.AppendSrc
import Derived.Laws.BytesArg
import Derived.Lib.SlBytesRow
namespace Go.Proofs.YtmcbbpcbebbjdaaDoor
open Go Go.RowKit

/-- Bytes as cells. -/
def bc (l : List UInt8) : List Value := l.map fun b => Value.int .u8 b.toNat

theorem bc_length (l : List UInt8) : (bc l).length = l.length := by simp [bc]
theorem bc_append (a b : List UInt8) : bc (a ++ b) = bc a ++ bc b := by simp [bc]
theorem bc_one (l : List UInt8) : ∀ u ∈ bc l, u.oneCell' = true := by
  intro u hu
  obtain ⟨_, _, rfl⟩ := List.mem_map.1 hu
  rfl
theorem byteCells_eq (s : ByteArray) : byteCells s = bc s.data.toList := rfl

/-- Go's own growth, closely: a quarter more than is needed, and some. -/
theorem nextslicecap_near {need old : Nat} (h : old < need) : Builtin.nextslicecap need old ≤ need + need / 4 + 512 := by
  unfold Builtin.nextslicecap
  split
  · omega
  · split
    · omega
    · rw [growBy_four]
      repeat' split
      all_goals omega

theorem fits1 {need : Nat} (h : need ≤ 225000000000000) : ∀ old, old < need → Builtin.nextslicecap need old * 1 ≤ 281474976710656 := fun old ho => by
  have := nextslicecap_near ho
  omega

section
variable {P : Program} (w : World)

theorem run_append_room_own (t tx ty e : TypeId) (i : TypeInfo) (ht : P.underlying t = some (.slice e)) (hi : P.info? e = some i)
    (g sLen sCap : Nat) (cur : Array Value) (hg : w.heap[g]? = some (.cells cur e (0, 0)))
    (x : Value) (m : Nat) (news : List Value) (hs : Src P i.size tx x m news w)
    (hroom : sLen + m ≤ sCap) (hfit : sLen * i.size + news.length ≤ cur.size) :
    (Builtin.append_ #[t, tx] ty #[.slice (some ⟨g, 0, none⟩) sLen sCap, x]).run P w =
      .ok (.slice (some ⟨g, 0, none⟩) (sLen + m) sCap) (w.setRow g (cur.toList.take (sLen * i.size) ++ news ++ cur.toList.drop (sLen * i.size + news.length)).toArray) := by
  have hst := run_storeCells_at P g (sLen * i.size) e news 0 cur w hg (by simpa using hfit) hs.one
  simp only [Nat.add_zero] at hst
  rcases hs.kind with ⟨e', hk⟩ | hk <;> simp [Builtin.append_, run_underlying ht, run_underlying hk, sizeOf, typeInfo, hi, hs.len, hroom, hs.cells, Addr.add_lit, hst]

/-- An append onto a row of the call's own, or onto nil, of whatever. -/
theorem run_append_own_src (base : Nat) (t tx ty e : TypeId) (i : TypeInfo) (z : Value) (size bytes : Nat) (ht : P.underlying t = some (.slice e)) (hi : P.info? e = some i) (hz : i.zero = some z)
    (hsize : i.size = size) (hby : i.bytes = bytes) (hzs : z.cells.size = size)
    (v : Value) (n : Nat) (xs : List Value) (hown : w.ownsRow base e size v n xs)
    (x : Value) (m : Nat) (news : List Value) (hs : Src P size tx x m news w)
    (h63 : n + m ≤ maxLen) (hbytes : ∀ old, old < n + m → Builtin.nextslicecap (n + m) old * bytes ≤ 281474976710656) (hbase : base ≤ w.heap.size) :
    ∃ v' w', (Builtin.append_ #[t, tx] ty #[v, x]).run P w = .ok v' w' ∧ w'.ownsRow base e size v' (n + m) (xs ++ news) ∧ w.grownBy w' v.ownBlock := by
  subst hsize
  subst hby
  have hl := hs.newsLen
  have hsmall : n + m ≤ 9223372036854775807 := by simp only [maxLen] at h63; omega
  have hlen : (xs ++ news).length = (n + m) * i.size := by rw [List.length_append, hown.1, hl, Nat.add_mul]
  have grown : ∀ (old : Nat), old < n + m → ∀ (row : Option Nat),
      (w.drew.alloc (.cells ((xs ++ news).toArray ++ Builtin.zeroCells z.cells (grownCap w (n + m) old e - (n + m))) e)).ownsRow base e i.size
        (.slice (some ⟨w.heap.size, 0, none⟩) (n + m) (grownCap w (n + m) old e)) (n + m) (xs ++ news) ∧
      w.grownBy (w.drew.alloc (.cells ((xs ++ news).toArray ++ Builtin.zeroCells z.cells (grownCap w (n + m) old e - (n + m))) e)) row := by
    intro old ho row
    have hge := grownCap_ge w (n + m) old e
    have hcm : grownCap w (n + m) old e ≤ maxLen := grownCap_le_maxLen w (n + m) old e h63
    refine ⟨⟨hlen, .inr ⟨w.heap.size, _, _, rfl, hbase, _root_.Go.heap_alloc_new w.drew _, hge, hcm, ?_, ?_⟩⟩, ⟨rfl, rfl, rfl, by simp, fun k hk _ => Below.heap_alloc w.drew _ k hk⟩⟩
    · simp only [Array.size_append, List.size_toArray, size_zeroCells, hzs, hlen, ← Nat.add_mul]
      congr 1
      omega
    · simp only [Array.toList_append]
      rw [← hlen]
      exact List.take_left
  rcases hown.2 with ⟨rfl, rfl⟩ | ⟨g, cap, cur, rfl, hbg, hg, hnc, hcm, hcs, htake⟩
  · have hx : xs = [] := List.eq_nil_of_length_eq_zero (by simpa using hown.1)
    subst hx
    by_cases hm : m = 0
    · subst hm
      have hn : news = [] := List.eq_nil_of_length_eq_zero (by simpa using hl)
      subst hn
      refine ⟨.slice none 0 0, w, ?_, World.ownsRow_nil w base e i.size, ⟨rfl, rfl, rfl, Nat.le_refl _, fun _ _ _ => rfl⟩⟩
      rcases hs.kind with ⟨e', hk⟩ | hk <;> simp [Builtin.append_, run_underlying ht, run_underlying hk, sizeOf, typeInfo, hi, hs.len, hs.cells]
    · have hr := run_append_grow_src (P := P) w t tx ty e i z ht hi hz none 0 0 [] (run_firstCells_none w.drew i.size 0 0 0) x m news hs (by omega) (by omega) (hbytes _ (by omega))
      have hgr := grown 0 (by omega) (Value.ownBlock (.slice none 0 0))
      exact ⟨_, _, hr, hgr.1, hgr.2⟩
  · by_cases hroom : n + m ≤ cap
    · have hfit : n * i.size + news.length ≤ cur.size := by rw [hl, hcs, ← Nat.add_mul]; exact Nat.mul_le_mul_right _ hroom
      have hr := run_append_room_own (P := P) w t tx ty e i ht hi g n cap cur hg x m news hs hroom hfit
      refine ⟨_, _, hr, ⟨hlen, .inr ⟨g, cap, _, rfl, hbg, setRow_heap w g cur _ e _ hg, hroom, hcm, ?_, ?_⟩⟩, ⟨rfl, rfl, rfl, by simp, fun k _ hk => setRow_other w g k _ (fun e => hk (by simp [Value.ownBlock, e]))⟩⟩
      · simp only [List.size_toArray, List.length_append, List.length_take, List.length_drop, Array.length_toList]
        omega
      · rw [htake, ← hlen]
        exact List.take_left
    · have holds : ∀ j u, xs[j]? = some u → w.cell? ((⟨g, 0, none⟩ : Addr).add j) = some u := hown.cells (g := g) rfl
      have hold := run_firstCells_some (P := P) w.drew i.size n ⟨g, 0, none⟩ n cap xs hown.1 (by simpa using holds)
      have hr := run_append_grow_src (P := P) w t tx ty e i z ht hi hz (some ⟨g, 0, none⟩) n cap xs hold x m news hs (by omega) (by omega) (hbytes _ (by omega))
      have hgr := grown cap (by omega) (Value.ownBlock (.slice (some ⟨g, 0, none⟩) n cap))
      exact ⟨_, _, hr, hgr.1, hgr.2⟩

theorem wpList_append_own_src {ops : Array Oper} {rest : List Oper} {o : Oper} {a : Act} {Q : Exit → Act → World → Prop} (hgd : o.guard = none) (s x : Operand) (t tx : TypeId)
    (ho : o.op = .call { callee := .builtin .append, args := #[s, x], argTypes := #[t, tx] })
    (base : Nat) (e : TypeId) (i : TypeInfo) (z : Value) (size bytes : Nat) (ht : P.underlying t = some (.slice e)) (hi : P.info? e = some i) (hz : i.zero = some z)
    (hsize : i.size = size) (hby : i.bytes = bytes) (hzs : z.cells.size = size)
    (v : Value) (n : Nat) (xs : List Value) (hs : a.eval s = v) (hown : w.ownsRow base e size v n xs)
    (xv : Value) (m : Nat) (news : List Value) (hx : a.eval x = xv) (hsrc : Src P size tx xv m news w)
    (h63 : n + m ≤ maxLen) (hbytes : ∀ old, old < n + m → Builtin.nextslicecap (n + m) old * bytes ≤ 281474976710656) (hbase : base ≤ w.heap.size)
    (h : ∀ v' w', w'.ownsRow base e size v' (n + m) (xs ++ news) → w.grownBy w' v.ownBlock → wpList P ops Q rest (a.put o.dst v') w') : wpList P ops Q (o :: rest) a w :=
  wpList_plain hgd fun K hK => by
    obtain ⟨v', w', hr, h2, h3⟩ := run_append_own_src (P := P) w base t tx o.type e i z size bytes ht hi hz hsize hby hzs v n xs hown xv m news hsrc h63 hbytes hbase
    unfold Oper.wp execOp
    simp only [ho, resolve, invoke, builtin, Sem.run_bind, Sem.run_pure, Result.andThen_ok, List.map_toArray, List.map_cons, List.map_nil, hs, hx, hr]
    exact hK _ _ (h v' w' h2 h3)
end

/-- A slice whose first n cells are the bytes l. -/
structure Rd (w : World) (a : Option Addr) (n c : Nat) (l : List UInt8) : Prop where
  len : l.length = n
  le : n ≤ c
  max : c ≤ maxLen
  hnil : a = none → c = 0
  cells : ∀ x, a = some x → ∀ j u, (bc l)[j]? = some u → w.cell? (x.add j) = some u

theorem Rd.nil (w : World) : Rd w none 0 0 [] := ⟨rfl, Nat.le_refl _, Nat.zero_le _, fun _ => rfl, fun _ h => by cases h⟩

theorem Rd.below {w w' : World} {B : Nat} {a : Option Addr} {n c : Nat} {l : List UInt8} (h : Rd w a n c l) (hb : Below B w w') (ha : ∀ x, a = some x → 0 < l.length → x.block < B) : Rd w' a n c l :=
  ⟨h.len, h.le, h.max, h.hnil, fun x hx j u hu => by
    have hj : j < l.length := by
      rcases Nat.lt_or_ge j l.length with h' | h'
      · exact h'
      · rw [List.getElem?_eq_none (by rw [bc_length]; exact h')] at hu; cases hu
    rw [hb.cell (p := x.add j) (by have := ha x hx (by omega); unfold Addr.add; split <;> simpa using this)]
    exact h.cells x hx j u hu⟩

/-- What is appended by 'append(x, b...)'. -/
theorem Rd.src {P : Program} {w : World} {a : Option Addr} {n c : Nat} {l : List UInt8} (h : Rd w a n c l) {t e : TypeId} (ht : P.underlying t = some (.slice e)) : Src P 1 t (.slice a n c) n (bc l) w := by
  cases a with
  | none =>
    have h1 := h.hnil rfl
    have h2 := h.le
    have h3 := h.len
    obtain rfl : n = 0 := by omega
    obtain rfl : l = [] := List.eq_nil_of_length_eq_zero h3
    exact Src.ofNil w ht c
  | some x => exact Src.ofSlice w ht x n c (bc l) (by rw [bc_length, h.len, Nat.mul_one]) (h.cells x rfl) (bc_one l)

/-- Where it has a byte its address is a plain one. -/
theorem Rd.plain {w : World} {a : Option Addr} {n c : Nat} {l : List UInt8} (h : Rd w a n c l) (hn : 0 < n) : ∃ b off, a = some ⟨b, off, none⟩ ∧ b < w.heap.size ∧ ∀ j (hj : j < l.length), w.cell? ⟨b, off + j, none⟩ = some (.int .u8 (l[j].toNat : Int)) := by
  cases a with
  | none => have := h.hnil rfl; have := h.le; omega
  | some x =>
    obtain ⟨b, off, spot⟩ := x
    have hl := h.len
    have at' : ∀ j (hj : j < l.length), w.cell? ((⟨b, off, spot⟩ : Addr).add j) = some (.int .u8 (l[j].toNat : Int)) := fun j hj => h.cells _ rfl j _ (by simp [bc, List.getElem?_eq_getElem hj])
    have hspot : spot = none := by simpa [Addr.add] using World.cell?_spot (at' 0 (by omega))
    subst hspot
    refine ⟨b, off, rfl, World.block_lt_of_cell? w _ (by simpa [Addr.add] using at' 0 (by omega)), fun j hj => ?_⟩
    rw [← Go.WideShapes.add_plain]
    exact at' j hj

theorem rd_of_owns {w : World} {base e n : Nat} {v : Value} {l : List UInt8} (h : w.ownsRow base e 1 v n (bc l)) : ∃ a c, v = .slice a n c ∧ Rd w a n c l ∧ (∀ x, a = some x → base ≤ x.block ∧ x.block < w.heap.size) := by
  have hl : l.length = n := by have := h.1; rw [bc_length] at this; omega
  rcases h.2 with ⟨rfl, rfl⟩ | ⟨g, cap, cur, rfl, hb, hg, hn, hm, _, _⟩
  · obtain rfl : l = [] := List.eq_nil_of_length_eq_zero hl
    exact ⟨none, 0, rfl, Rd.nil w, fun x hx => by cases hx⟩
  · refine ⟨some ⟨g, 0, none⟩, cap, rfl, ⟨hl, hn, hm, (fun h => by cases h), fun x hx => ?_⟩, fun x hx => ?_⟩
    · cases hx
      exact h.cells rfl
    · cases hx
      exact ⟨hb, (Array.getElem?_eq_some_iff.1 hg).1⟩

/-- A slice whose first n cells are the numbers zs, each of the kind k. -/
structure RdI (k : IntKind) (w : World) (a : Option Addr) (n c : Nat) (zs : List Int) : Prop where
  len : zs.length = n
  le : n ≤ c
  max : c ≤ maxLen
  hnil : a = none → c = 0
  cells : ∀ x, a = some x → ∀ j, j < n → w.cell? (x.add j) = some (.int k (zs.getD j 0))
  wf : ∀ z ∈ zs, (Lit.int k z).wf = true

theorem RdI.nil (k : IntKind) (w : World) : RdI k w none 0 0 [] := ⟨rfl, Nat.le_refl _, Nat.zero_le _, fun _ => rfl, (fun _ h => by cases h), fun _ h => by cases h⟩

theorem RdI.ofRow {k : IntKind} {w : World} {x : Addr} {n c : Nat} {zs : List Int} (hl : n ≤ c) (hm : c ≤ maxLen) (hz : zs.length = c * 1) (hcell : ∀ i, i < zs.length → w.cell? (x.add i) = some (.int k (zs.getD i 0)))
    (hw : ∀ z ∈ zs, (Lit.int k z).wf = true) : RdI k w (some x) n c (zs.take n) := by
  refine ⟨by rw [List.length_take]; omega, hl, hm, (fun h => by cases h), fun y hy j hj => ?_, fun z h => hw z (List.mem_of_mem_take h)⟩
  cases hy
  rw [hcell j (by omega), List.getD, List.getD, List.getElem?_take_of_lt hj]

theorem RdI.plain {k : IntKind} {w : World} {a : Option Addr} {n c : Nat} {zs : List Int} (h : RdI k w a n c zs) (hn : 0 < n) : ∃ b off, a = some ⟨b, off, none⟩ ∧ b < w.heap.size ∧ ∀ j, j < zs.length → w.cell? ⟨b, off + j, none⟩ = some (.int k (zs.getD j 0)) := by
  cases a with
  | none => have := h.hnil rfl; have := h.le; omega
  | some x =>
    obtain ⟨b, off, spot⟩ := x
    have hl := h.len
    have hspot : spot = none := by simpa [Addr.add] using World.cell?_spot (h.cells _ rfl 0 hn)
    subst hspot
    refine ⟨b, off, rfl, World.block_lt_of_cell? w _ (by simpa [Addr.add] using h.cells _ rfl 0 hn), fun j hj => ?_⟩
    rw [← Go.WideShapes.add_plain]
    exact h.cells _ rfl j (by omega)

/-- Of bytes: the list of bytes. -/
theorem RdI.bytes {w : World} {a : Option Addr} {n c : Nat} {zs : List Int} (h : RdI .u8 w a n c zs) : ∃ l, Rd w a n c l ∧ zs = l.map fun b => (b.toNat : Int) := by
  have e : zs = (zs.map fun z => UInt8.ofNat z.toNat).map fun b => (b.toNat : Int) := by
    rw [List.map_map]
    conv => lhs; rw [← List.map_id zs]
    apply List.map_congr_left
    intro z hz
    have := h.wf z hz
    simp [Lit.wf, IntKind.min, IntKind.max, IntKind.signed, IntKind.bits] at this
    simp only [id_eq, Function.comp_apply, UInt8.toNat_ofNat']
    omega
  refine ⟨zs.map fun z => UInt8.ofNat z.toNat, ⟨by rw [List.length_map]; exact h.len, h.le, h.max, h.hnil, fun x hx j u hu => ?_⟩, e⟩
  have hj : j < n := by
    rcases Nat.lt_or_ge j n with h' | h'
    · exact h'
    · rw [List.getElem?_eq_none (by rw [bc_length, List.length_map, h.len]; exact h')] at hu; cases hu
  rw [h.cells x hx j hj, ← hu]
  have e2 : bc (zs.map fun z => UInt8.ofNat z.toNat) = zs.map (Value.int .u8) := by
    conv => rhs; rw [e]
    rw [bc, List.map_map, List.map_map, List.map_map]
    rfl
  rw [e2, List.getElem?_map, List.getD]
  have hz : j < zs.length := by rw [h.len]; exact hj
  simp [List.getElem?_eq_getElem hz]

theorem map_ofNat_toNat (l : List UInt8) : (l.map fun b => (b.toNat : Int)).map (fun n => UInt8.ofNat n.toNat) = l := by
  rw [List.map_map]
  conv => rhs; rw [← List.map_id l]
  apply List.map_congr_left
  intro x _
  simp

/-- 'string(b)'. -/
theorem Rd.conv {P : Program} {w : World} {a : Option Addr} {n c : Nat} {l : List UInt8} (h : Rd w a n c l) (src dst e : TypeId) (hs : P.underlying src = some (.slice e)) (he : P.underlying e = some (.int .u8)) (hd : P.underlying dst = some .string) :
    (convert src dst (.slice a n c)).run P w = .ok (.string ⟨l.toArray⟩) w := by
  cases a with
  | none =>
    have h0 := h.hnil rfl
    have h1 := h.le
    have h2 := h.len
    obtain rfl : l = [] := List.eq_nil_of_length_eq_zero (by omega)
    rw [run_convert_bytes_string w src dst e _ n c hs he hd]
    simp [Conv.bytesToString]
    rfl
  | some x =>
    have hl : (loadCells x n).run P w = .ok ((l.map fun b => (b.toNat : Int)).map (Value.int .u8)).toArray w := by
      have := run_loadCells_list (P := P) w x (bc l) (fun j v hj => h.cells x rfl j v hj)
      rw [bc_length, h.len] at this
      rw [this, bc, List.map_map]
      rfl
    rw [run_convert_bytes_string w src dst e _ n c hs he hd, run_bytesToString w _ n c _ hl, foldl_push_bytes, map_ofNat_toNat]
    simp [ByteArray.empty, ByteArray.emptyWithCapacity]
    rfl

theorem RdI.on {k : IntKind} {w x : World} {a : Option Addr} {n c : Nat} {zs : List Int} (h : RdI k w a n c zs) (hb : Below w.heap.size w x) : RdI k x a n c zs :=
  ⟨h.len, h.le, h.max, h.hnil, fun y hy j hj => by
    obtain ⟨b, off, e, hbl, _⟩ := h.plain (by omega)
    have hc := h.cells y hy j hj
    rw [hy] at e
    cases e
    rw [Go.WideShapes.add_plain] at hc ⊢
    rw [hb.cell hbl]
    exact hc, h.wf⟩
end Go.Proofs.YtmcbbpcbebbjdaaDoor
