/- Laws on slices of bytes that a call makes or reads, over any program: what an append leaves of a row of the call's own, whatever is appended (a slice, nil, a string). No condition but the sizes that Go's own append asks. -/
import Derived.WalkKit
import Derived.ProofKit
import Derived.Deep.AppendSrc
import Derived.Laws.BytesArg
import Derived.Lib.SlBytesRow
import Derived.Test.YtmiapccngeafkaaDoorBb
import Derived.Laws.OwnMore
import Derived.Deep.DeepCutAuto
import Derived.Deep.CutRange
namespace Go.Proofs.YtmiapccngeafkaaDoor
open Go Go.RowKit

/-- Bytes as cells. -/
def bc (l : List UInt8) : List Value := l.map fun b => Value.int .u8 b.toNat

theorem bc_length (l : List UInt8) : (bc l).length = l.length := by simp [bc]
theorem bc_append (a b : List UInt8) : bc (a ++ b) = bc a ++ bc b := by simp [bc]
theorem bc_one (l : List UInt8) : ∀ u ∈ bc l, u.oneCell' = true := by
  intro u hu
  obtain ⟨_, _, rfl⟩ := List.mem_map.1 hu
  rfl
theorem byteCells_eq (s : ByteArray) : byteCells s = bc s.data.toList := rfl

/-- Go's own growth, closely: a quarter more than is needed, and some. -/
theorem nextslicecap_near {need old : Nat} (h : old < need) : Builtin.nextslicecap need old ≤ need + need / 4 + 512 := by
  unfold Builtin.nextslicecap
  split
  · omega
  · split
    · omega
    · rw [growBy_four]
      repeat' split
      all_goals omega

theorem fits1 {need : Nat} (h : need ≤ 225000000000000) : ∀ old, old < need → Builtin.nextslicecap need old * 1 ≤ 281474976710656 := fun old ho => by
  have := nextslicecap_near ho
  omega

section
variable {P : Program} (w : World)

theorem run_append_room_own (t tx ty e : TypeId) (i : TypeInfo) (ht : P.underlying t = some (.slice e)) (hi : P.info? e = some i)
    (g sLen sCap : Nat) (cur : Array Value) (hg : w.heap[g]? = some (.cells cur e (0, 0)))
    (x : Value) (m : Nat) (news : List Value) (hs : Src P i.size tx x m news w)
    (hroom : sLen + m ≤ sCap) (hfit : sLen * i.size + news.length ≤ cur.size) :
    (Builtin.append_ #[t, tx] ty #[.slice (some ⟨g, 0, none⟩) sLen sCap, x]).run P w =
      .ok (.slice (some ⟨g, 0, none⟩) (sLen + m) sCap) (w.setRow g (cur.toList.take (sLen * i.size) ++ news ++ cur.toList.drop (sLen * i.size + news.length)).toArray) := by
  have hst := run_storeCells_at P g (sLen * i.size) e news 0 cur w hg (by simpa using hfit) hs.one
  simp only [Nat.add_zero] at hst
  rcases hs.kind with ⟨e', hk⟩ | hk <;> simp [Builtin.append_, run_underlying ht, run_underlying hk, sizeOf, typeInfo, hi, hs.len, hroom, hs.cells, Addr.add_lit, hst]

/-- An append onto a row of the call's own, or onto nil, of whatever. -/
theorem run_append_own_src (base : Nat) (t tx ty e : TypeId) (i : TypeInfo) (z : Value) (size bytes : Nat) (ht : P.underlying t = some (.slice e)) (hi : P.info? e = some i) (hz : i.zero = some z)
    (hsize : i.size = size) (hby : i.bytes = bytes) (hzs : z.cells.size = size)
    (v : Value) (n : Nat) (xs : List Value) (hown : w.ownsRow base e size v n xs)
    (x : Value) (m : Nat) (news : List Value) (hs : Src P size tx x m news w)
    (h63 : n + m ≤ maxLen) (hbytes : ∀ old, old < n + m → Builtin.nextslicecap (n + m) old * bytes ≤ 281474976710656) (hbase : base ≤ w.heap.size) :
    ∃ v' w', (Builtin.append_ #[t, tx] ty #[v, x]).run P w = .ok v' w' ∧ w'.ownsRow base e size v' (n + m) (xs ++ news) ∧ w.grownBy w' v.ownBlock := by
  subst hsize
  subst hby
  have hl := hs.newsLen
  have hsmall : n + m ≤ 9223372036854775807 := by simp only [maxLen] at h63; omega
  have hlen : (xs ++ news).length = (n + m) * i.size := by rw [List.length_append, hown.1, hl, Nat.add_mul]
  have grown : ∀ (old : Nat), old < n + m → ∀ (row : Option Nat),
      (w.drew.alloc (.cells ((xs ++ news).toArray ++ Builtin.zeroCells z.cells (grownCap w (n + m) old e - (n + m))) e)).ownsRow base e i.size
        (.slice (some ⟨w.heap.size, 0, none⟩) (n + m) (grownCap w (n + m) old e)) (n + m) (xs ++ news) ∧
      w.grownBy (w.drew.alloc (.cells ((xs ++ news).toArray ++ Builtin.zeroCells z.cells (grownCap w (n + m) old e - (n + m))) e)) row := by
    intro old ho row
    have hge := grownCap_ge w (n + m) old e
    have hcm : grownCap w (n + m) old e ≤ maxLen := grownCap_le_maxLen w (n + m) old e h63
    refine ⟨⟨hlen, .inr ⟨w.heap.size, _, _, rfl, hbase, _root_.Go.heap_alloc_new w.drew _, hge, hcm, ?_, ?_⟩⟩, ⟨rfl, rfl, rfl, by simp, fun k hk _ => Below.heap_alloc w.drew _ k hk⟩⟩
    · simp only [Array.size_append, List.size_toArray, size_zeroCells, hzs, hlen, ← Nat.add_mul]
      congr 1
      omega
    · simp only [Array.toList_append]
      rw [← hlen]
      exact List.take_left
  rcases hown.2 with ⟨rfl, rfl⟩ | ⟨g, cap, cur, rfl, hbg, hg, hnc, hcm, hcs, htake⟩
  · have hx : xs = [] := List.eq_nil_of_length_eq_zero (by simpa using hown.1)
    subst hx
    by_cases hm : m = 0
    · subst hm
      have hn : news = [] := List.eq_nil_of_length_eq_zero (by simpa using hl)
      subst hn
      refine ⟨.slice none 0 0, w, ?_, World.ownsRow_nil w base e i.size, ⟨rfl, rfl, rfl, Nat.le_refl _, fun _ _ _ => rfl⟩⟩
      rcases hs.kind with ⟨e', hk⟩ | hk <;> simp [Builtin.append_, run_underlying ht, run_underlying hk, sizeOf, typeInfo, hi, hs.len, hs.cells]
    · have hr := run_append_grow_src (P := P) w t tx ty e i z ht hi hz none 0 0 [] (run_firstCells_none w.drew i.size 0 0 0) x m news hs (by omega) (by omega) (hbytes _ (by omega))
      have hgr := grown 0 (by omega) (Value.ownBlock (.slice none 0 0))
      exact ⟨_, _, hr, hgr.1, hgr.2⟩
  · by_cases hroom : n + m ≤ cap
    · have hfit : n * i.size + news.length ≤ cur.size := by rw [hl, hcs, ← Nat.add_mul]; exact Nat.mul_le_mul_right _ hroom
      have hr := run_append_room_own (P := P) w t tx ty e i ht hi g n cap cur hg x m news hs hroom hfit
      refine ⟨_, _, hr, ⟨hlen, .inr ⟨g, cap, _, rfl, hbg, setRow_heap w g cur _ e _ hg, hroom, hcm, ?_, ?_⟩⟩, ⟨rfl, rfl, rfl, by simp, fun k _ hk => setRow_other w g k _ (fun e => hk (by simp [Value.ownBlock, e]))⟩⟩
      · simp only [List.size_toArray, List.length_append, List.length_take, List.length_drop, Array.length_toList]
        omega
      · rw [htake, ← hlen]
        exact List.take_left
    · have holds : ∀ j u, xs[j]? = some u → w.cell? ((⟨g, 0, none⟩ : Addr).add j) = some u := hown.cells (g := g) rfl
      have hold := run_firstCells_some (P := P) w.drew i.size n ⟨g, 0, none⟩ n cap xs hown.1 (by simpa using holds)
      have hr := run_append_grow_src (P := P) w t tx ty e i z ht hi hz (some ⟨g, 0, none⟩) n cap xs hold x m news hs (by omega) (by omega) (hbytes _ (by omega))
      have hgr := grown cap (by omega) (Value.ownBlock (.slice (some ⟨g, 0, none⟩) n cap))
      exact ⟨_, _, hr, hgr.1, hgr.2⟩

theorem wpList_append_own_src {ops : Array Oper} {rest : List Oper} {o : Oper} {a : Act} {Q : Exit → Act → World → Prop} (hgd : o.guard = none) (s x : Operand) (t tx : TypeId)
    (ho : o.op = .call { callee := .builtin .append, args := #[s, x], argTypes := #[t, tx] })
    (base : Nat) (e : TypeId) (i : TypeInfo) (z : Value) (size bytes : Nat) (ht : P.underlying t = some (.slice e)) (hi : P.info? e = some i) (hz : i.zero = some z)
    (hsize : i.size = size) (hby : i.bytes = bytes) (hzs : z.cells.size = size)
    (v : Value) (n : Nat) (xs : List Value) (hs : a.eval s = v) (hown : w.ownsRow base e size v n xs)
    (xv : Value) (m : Nat) (news : List Value) (hx : a.eval x = xv) (hsrc : Src P size tx xv m news w)
    (h63 : n + m ≤ maxLen) (hbytes : ∀ old, old < n + m → Builtin.nextslicecap (n + m) old * bytes ≤ 281474976710656) (hbase : base ≤ w.heap.size)
    (h : ∀ v' w', w'.ownsRow base e size v' (n + m) (xs ++ news) → w.grownBy w' v.ownBlock → wpList P ops Q rest (a.put o.dst v') w') : wpList P ops Q (o :: rest) a w :=
  wpList_plain hgd fun K hK => by
    obtain ⟨v', w', hr, h2, h3⟩ := run_append_own_src (P := P) w base t tx o.type e i z size bytes ht hi hz hsize hby hzs v n xs hown xv m news hsrc h63 hbytes hbase
    unfold Oper.wp execOp
    simp only [ho, resolve, invoke, builtin, Sem.run_bind, Sem.run_pure, Result.andThen_ok, List.map_toArray, List.map_cons, List.map_nil, hs, hx, hr]
    exact hK _ _ (h v' w' h2 h3)
end

/-- A slice whose first n cells are the bytes l. -/
structure Rd (w : World) (a : Option Addr) (n c : Nat) (l : List UInt8) : Prop where
  len : l.length = n
  le : n ≤ c
  max : c ≤ maxLen
  hnil : a = none → c = 0
  cells : ∀ x, a = some x → ∀ j u, (bc l)[j]? = some u → w.cell? (x.add j) = some u

theorem Rd.nil (w : World) : Rd w none 0 0 [] := ⟨rfl, Nat.le_refl _, Nat.zero_le _, fun _ => rfl, fun _ h => by cases h⟩

theorem Rd.below {w w' : World} {B : Nat} {a : Option Addr} {n c : Nat} {l : List UInt8} (h : Rd w a n c l) (hb : Below B w w') (ha : ∀ x, a = some x → 0 < l.length → x.block < B) : Rd w' a n c l :=
  ⟨h.len, h.le, h.max, h.hnil, fun x hx j u hu => by
    have hj : j < l.length := by
      rcases Nat.lt_or_ge j l.length with h' | h'
      · exact h'
      · rw [List.getElem?_eq_none (by rw [bc_length]; exact h')] at hu; cases hu
    rw [hb.cell (p := x.add j) (by have := ha x hx (by omega); unfold Addr.add; split <;> simpa using this)]
    exact h.cells x hx j u hu⟩

/-- What is appended by 'append(x, b...)'. -/
theorem Rd.src {P : Program} {w : World} {a : Option Addr} {n c : Nat} {l : List UInt8} (h : Rd w a n c l) {t e : TypeId} (ht : P.underlying t = some (.slice e)) : Src P 1 t (.slice a n c) n (bc l) w := by
  cases a with
  | none =>
    have h1 := h.hnil rfl
    have h2 := h.le
    have h3 := h.len
    obtain rfl : n = 0 := by omega
    obtain rfl : l = [] := List.eq_nil_of_length_eq_zero h3
    exact Src.ofNil w ht c
  | some x => exact Src.ofSlice w ht x n c (bc l) (by rw [bc_length, h.len, Nat.mul_one]) (h.cells x rfl) (bc_one l)

/-- Where it has a byte its address is a plain one. -/
theorem Rd.plain {w : World} {a : Option Addr} {n c : Nat} {l : List UInt8} (h : Rd w a n c l) (hn : 0 < n) : ∃ b off, a = some ⟨b, off, none⟩ ∧ b < w.heap.size ∧ ∀ j (hj : j < l.length), w.cell? ⟨b, off + j, none⟩ = some (.int .u8 (l[j].toNat : Int)) := by
  cases a with
  | none => have := h.hnil rfl; have := h.le; omega
  | some x =>
    obtain ⟨b, off, spot⟩ := x
    have hl := h.len
    have at' : ∀ j (hj : j < l.length), w.cell? ((⟨b, off, spot⟩ : Addr).add j) = some (.int .u8 (l[j].toNat : Int)) := fun j hj => h.cells _ rfl j _ (by simp [bc, List.getElem?_eq_getElem hj])
    have hspot : spot = none := by simpa [Addr.add] using World.cell?_spot (at' 0 (by omega))
    subst hspot
    refine ⟨b, off, rfl, World.block_lt_of_cell? w _ (by simpa [Addr.add] using at' 0 (by omega)), fun j hj => ?_⟩
    rw [← Go.WideShapes.add_plain]
    exact at' j hj

theorem rd_of_owns {w : World} {base e n : Nat} {v : Value} {l : List UInt8} (h : w.ownsRow base e 1 v n (bc l)) : ∃ a c, v = .slice a n c ∧ Rd w a n c l ∧ (∀ x, a = some x → base ≤ x.block ∧ x.block < w.heap.size) := by
  have hl : l.length = n := by have := h.1; rw [bc_length] at this; omega
  rcases h.2 with ⟨rfl, rfl⟩ | ⟨g, cap, cur, rfl, hb, hg, hn, hm, _, _⟩
  · obtain rfl : l = [] := List.eq_nil_of_length_eq_zero hl
    exact ⟨none, 0, rfl, Rd.nil w, fun x hx => by cases hx⟩
  · refine ⟨some ⟨g, 0, none⟩, cap, rfl, ⟨hl, hn, hm, (fun h => by cases h), fun x hx => ?_⟩, fun x hx => ?_⟩
    · cases hx
      exact h.cells rfl
    · cases hx
      exact ⟨hb, (Array.getElem?_eq_some_iff.1 hg).1⟩

/-- A slice whose first n cells are the numbers zs, each of the kind k. -/
structure RdI (k : IntKind) (w : World) (a : Option Addr) (n c : Nat) (zs : List Int) : Prop where
  len : zs.length = n
  le : n ≤ c
  max : c ≤ maxLen
  hnil : a = none → c = 0
  cells : ∀ x, a = some x → ∀ j, j < n → w.cell? (x.add j) = some (.int k (zs.getD j 0))
  wf : ∀ z ∈ zs, (Lit.int k z).wf = true

theorem RdI.nil (k : IntKind) (w : World) : RdI k w none 0 0 [] := ⟨rfl, Nat.le_refl _, Nat.zero_le _, fun _ => rfl, (fun _ h => by cases h), fun _ h => by cases h⟩

theorem RdI.ofRow {k : IntKind} {w : World} {x : Addr} {n c : Nat} {zs : List Int} (hl : n ≤ c) (hm : c ≤ maxLen) (hz : zs.length = c * 1) (hcell : ∀ i, i < zs.length → w.cell? (x.add i) = some (.int k (zs.getD i 0)))
    (hw : ∀ z ∈ zs, (Lit.int k z).wf = true) : RdI k w (some x) n c (zs.take n) := by
  refine ⟨by rw [List.length_take]; omega, hl, hm, (fun h => by cases h), fun y hy j hj => ?_, fun z h => hw z (List.mem_of_mem_take h)⟩
  cases hy
  rw [hcell j (by omega), List.getD, List.getD, List.getElem?_take_of_lt hj]

theorem RdI.plain {k : IntKind} {w : World} {a : Option Addr} {n c : Nat} {zs : List Int} (h : RdI k w a n c zs) (hn : 0 < n) : ∃ b off, a = some ⟨b, off, none⟩ ∧ b < w.heap.size ∧ ∀ j, j < zs.length → w.cell? ⟨b, off + j, none⟩ = some (.int k (zs.getD j 0)) := by
  cases a with
  | none => have := h.hnil rfl; have := h.le; omega
  | some x =>
    obtain ⟨b, off, spot⟩ := x
    have hl := h.len
    have hspot : spot = none := by simpa [Addr.add] using World.cell?_spot (h.cells _ rfl 0 hn)
    subst hspot
    refine ⟨b, off, rfl, World.block_lt_of_cell? w _ (by simpa [Addr.add] using h.cells _ rfl 0 hn), fun j hj => ?_⟩
    rw [← Go.WideShapes.add_plain]
    exact h.cells _ rfl j (by omega)

/-- Of bytes: the list of bytes. -/
theorem RdI.bytes {w : World} {a : Option Addr} {n c : Nat} {zs : List Int} (h : RdI .u8 w a n c zs) : ∃ l, Rd w a n c l ∧ zs = l.map fun b => (b.toNat : Int) := by
  have e : zs = (zs.map fun z => UInt8.ofNat z.toNat).map fun b => (b.toNat : Int) := by
    rw [List.map_map]
    conv => lhs; rw [← List.map_id zs]
    apply List.map_congr_left
    intro z hz
    have := h.wf z hz
    simp [Lit.wf, IntKind.min, IntKind.max, IntKind.signed, IntKind.bits] at this
    simp only [id_eq, Function.comp_apply, UInt8.toNat_ofNat']
    omega
  refine ⟨zs.map fun z => UInt8.ofNat z.toNat, ⟨by rw [List.length_map]; exact h.len, h.le, h.max, h.hnil, fun x hx j u hu => ?_⟩, e⟩
  have hj : j < n := by
    rcases Nat.lt_or_ge j n with h' | h'
    · exact h'
    · rw [List.getElem?_eq_none (by rw [bc_length, List.length_map, h.len]; exact h')] at hu; cases hu
  rw [h.cells x hx j hj, ← hu]
  have e2 : bc (zs.map fun z => UInt8.ofNat z.toNat) = zs.map (Value.int .u8) := by
    conv => rhs; rw [e]
    rw [bc, List.map_map, List.map_map, List.map_map]
    rfl
  rw [e2, List.getElem?_map, List.getD]
  have hz : j < zs.length := by rw [h.len]; exact hj
  simp [List.getElem?_eq_getElem hz]

theorem map_ofNat_toNat (l : List UInt8) : (l.map fun b => (b.toNat : Int)).map (fun n => UInt8.ofNat n.toNat) = l := by
  rw [List.map_map]
  conv => rhs; rw [← List.map_id l]
  apply List.map_congr_left
  intro x _
  simp

/-- 'string(b)'. -/
theorem Rd.conv {P : Program} {w : World} {a : Option Addr} {n c : Nat} {l : List UInt8} (h : Rd w a n c l) (src dst e : TypeId) (hs : P.underlying src = some (.slice e)) (he : P.underlying e = some (.int .u8)) (hd : P.underlying dst = some .string) :
    (convert src dst (.slice a n c)).run P w = .ok (.string ⟨l.toArray⟩) w := by
  cases a with
  | none =>
    have h0 := h.hnil rfl
    have h1 := h.le
    have h2 := h.len
    obtain rfl : l = [] := List.eq_nil_of_length_eq_zero (by omega)
    rw [run_convert_bytes_string w src dst e _ n c hs he hd]
    simp [Conv.bytesToString]
    rfl
  | some x =>
    have hl : (loadCells x n).run P w = .ok ((l.map fun b => (b.toNat : Int)).map (Value.int .u8)).toArray w := by
      have := run_loadCells_list (P := P) w x (bc l) (fun j v hj => h.cells x rfl j v hj)
      rw [bc_length, h.len] at this
      rw [this, bc, List.map_map]
      rfl
    rw [run_convert_bytes_string w src dst e _ n c hs he hd, run_bytesToString w _ n c _ hl, foldl_push_bytes, map_ofNat_toNat]
    simp [ByteArray.empty, ByteArray.emptyWithCapacity]
    rfl

theorem RdI.on {k : IntKind} {w x : World} {a : Option Addr} {n c : Nat} {zs : List Int} (h : RdI k w a n c zs) (hb : Below w.heap.size w x) : RdI k x a n c zs :=
  ⟨h.len, h.le, h.max, h.hnil, fun y hy j hj => by
    obtain ⟨b, off, e, hbl, _⟩ := h.plain (by omega)
    have hc := h.cells y hy j hj
    rw [hy] at e
    cases e
    rw [Go.WideShapes.add_plain] at hc ⊢
    rw [hb.cell hbl]
    exact hc, h.wf⟩
end Go.Proofs.YtmiapccngeafkaaDoor

/- Cuts and covers, in numbers. -/
namespace Go.Proofs.YtmiapccngeafkaaDoor
open Go Go.RowKit

variable {a b : Rc}

theorem cvr_ok (ha : Ck a) (hb : Ck b) : (cvr a b).Ok := by
  have e1 := ha.enx
  have e2 := ha.eny
  have e3 := hb.enx
  have e4 := hb.eny
  obtain ⟨k1, k2, k3, k4, k5, k6⟩ := ha
  obtain ⟨l1, l2, l3, l4, l5, l6⟩ := hb
  rw [cvr, e1, e2, e3, e4]
  exact ⟨by dsimp only; omega, by dsimp only; omega, by dsimp only; omega, by dsimp only; omega⟩

theorem may_ck (h : may a = true) (he : emp a = false) : Ck a := (may_cases h).resolve_left (by rw [he]; decide)

theorem cut_sum (ka : Ck a) (kb : Ck b) : cut a b = oft (max a.x b.x) (max a.y b.y) (min (a.x + a.w) (b.x + b.w)) (min (a.y + a.h) (b.y + b.h)) := by
  rw [cut_full ka.emp kb.emp, ka.enx, ka.eny, kb.enx, kb.eny]
theorem cov_sum (ka : Ck a) (kb : Ck b) : cov a b = ⟨min a.x b.x, min a.y b.y, max (a.x + a.w) (b.x + b.w) - min a.x b.x, max (a.y + a.h) (b.y + b.h) - min a.y b.y⟩ := by
  rw [cov_full ka.emp kb.emp, cvr, ka.enx, ka.eny, kb.enx, kb.eny]

theorem cov_ck (ka : Ck a) (kb : Ck b) : Ck (cov a b) := by
  rw [cov_sum ka kb]
  obtain ⟨k1, k2, k3, k4, k5, k6⟩ := ka
  obtain ⟨l1, l2, l3, l4, l5, l6⟩ := kb
  exact ⟨by dsimp only; omega, by dsimp only; omega, by dsimp only; omega, by dsimp only; omega, by dsimp only; omega, by dsimp only; omega⟩

theorem cut_comm (a b : Rc) : cut a b = cut b a := by
  unfold cut
  rw [Int.max_comm a.x, Int.max_comm a.y, Int.min_comm (en a.x a.w), Int.min_comm (en a.y a.h)]
  by_cases h : emp a = true ∨ emp b = true
  · rw [if_pos h, if_pos h.symm]
  · rw [if_neg h, if_neg (fun h' => h h'.symm)]

theorem cov_comm (ka : Ck a) (kb : Ck b) : cov a b = cov b a := by
  rw [cov_sum ka kb, cov_sum kb ka, Rc.mk.injEq]
  omega

theorem cut_self (ka : Ck a) : cut a a = a := by
  rw [cut_sum ka ka]
  obtain ⟨k1, k2, k3, k4, k5, k6⟩ := ka
  rw [oft_full (by omega) (by omega)]
  cases a
  rw [Rc.mk.injEq]
  dsimp only
  omega
theorem cov_self (ka : Ck a) : cov a a = a := by
  rw [cov_sum ka ka]
  cases a
  rw [Rc.mk.injEq]
  dsimp only
  omega
theorem cut_cov (ka : Ck a) (kb : Ck b) : cut a (cov a b) = a := by
  rw [cut_sum ka (cov_ck ka kb), cov_sum ka kb]
  obtain ⟨k1, k2, k3, k4, k5, k6⟩ := ka
  obtain ⟨l1, l2, l3, l4, l5, l6⟩ := kb
  dsimp only
  rw [oft_full (by omega) (by omega)]
  cases a
  rw [Rc.mk.injEq]
  dsimp only
  omega
theorem bnd_ck (ka : Ck a) : bnd a = a := by
  have h := dck_iff.2 ka
  rw [← chk_dck ka.ok, chk, Bool.and_eq_true, rceq_iff] at h
  exact h.2

/-- The cut of two that have points: nothing, or with these numbers. -/
theorem cut_two (ka : Ck a) (kb : Ck b) : cut a b = rz ∨ (cut a b = ⟨max a.x b.x, max a.y b.y, min (a.x + a.w) (b.x + b.w) - max a.x b.x, min (a.y + a.h) (b.y + b.h) - max a.y b.y⟩ ∧ max a.x b.x < min (a.x + a.w) (b.x + b.w) ∧ max a.y b.y < min (a.y + a.h) (b.y + b.h)) := by
  rw [cut_sum ka kb]
  by_cases h1 : min (a.x + a.w) (b.x + b.w) ≤ max a.x b.x
  · exact .inl (oft_left h1)
  · by_cases h2 : min (a.y + a.h) (b.y + b.h) ≤ max a.y b.y
    · exact .inl (oft_top h2)
    · exact .inr ⟨oft_full h1 h2, Int.not_le.1 h1, Int.not_le.1 h2⟩

theorem cut_rz (ka : Ck a) (kb : Ck b) (he : emp (cut a b) = true) : cut a b = rz := by
  rcases cut_two ka kb with h | ⟨h, h1, h2⟩
  · exact h
  · rw [h] at he
    simp [emp] at he
    omega
theorem cut_ck (ka : Ck a) (kb : Ck b) (he : emp (cut a b) = false) : Ck (cut a b) := by
  rcases cut_two ka kb with h | ⟨h, h1, h2⟩
  · rw [h] at he
    exact absurd he (by decide)
  · rw [h]
    obtain ⟨k1, k2, k3, k4, k5, k6⟩ := ka
    obtain ⟨l1, l2, l3, l4, l5, l6⟩ := kb
    exact ⟨by dsimp only; omega, by dsimp only; omega, by dsimp only; omega, by dsimp only; omega, by dsimp only; omega, by dsimp only; omega⟩
theorem cov_cut (ka : Ck a) (kb : Ck b) (he : emp (cut a b) = false) : cov a (cut a b) = a := by
  rw [cov_sum ka (cut_ck ka kb he)]
  rcases cut_two ka kb with h | ⟨h, h1, h2⟩
  · rw [h] at he
    exact absurd he (by decide)
  · rw [h]
    obtain ⟨k1, k2, k3, k4, k5, k6⟩ := ka
    cases a
    rw [Rc.mk.injEq]
    dsimp only
    dsimp only at h1 h2
    omega
end Go.Proofs.YtmiapccngeafkaaDoor

/- Points of cuts, covers, what is moved, what is bound. -/
namespace Go.Proofs.YtmiapccngeafkaaDoor
open Go Go.RowKit

variable {a b : Rc}

theorem rz_ok : rz.Ok := ⟨by decide, by decide, by decide, by decide⟩
theorem has_emp (h : emp a = true) (x y : Int) : has a x y = false := by simp [has, h]
theorem has_rz (x y : Int) : has rz x y = false := has_emp rfl x y

theorem cut_ok (ha : may a = true) (hb : may b = true) : (cut a b).Ok := by
  rcases may_cases ha with he | ka
  · rw [cut_emp1 he]; exact rz_ok
  · rcases may_cases hb with hf | kb
    · rw [cut_emp2 a hf]; exact rz_ok
    · cases hc : emp (cut a b)
      · exact (cut_ck ka kb hc).ok
      · rw [cut_rz ka kb hc]; exact rz_ok
theorem cov_may (ha : may a = true) (hb : may b = true) : cov a b = rz ∨ Ck (cov a b) := by
  rcases may_cases ha with he | ka
  · rw [cov_emp1 he]
    rcases may_cases hb with hf | kb
    · exact .inl (pln_emp hf)
    · rw [pln_full kb.emp]; exact .inr kb
  · rcases may_cases hb with hf | kb
    · rw [cov_emp2 ka.emp hf]; exact .inr ka
    · exact .inr (cov_ck ka kb)
theorem cov_ok (ha : may a = true) (hb : may b = true) : (cov a b).Ok := by
  rcases cov_may ha hb with h | h
  · rw [h]; exact rz_ok
  · exact h.ok
theorem bnd_may (ha : may a = true) : emp a = true ∧ bnd a = rz ∨ bnd a = a := by
  rcases may_cases ha with he | ka
  · exact .inl ⟨he, bnd_emp he⟩
  · exact .inr (bnd_ck ka)
theorem bnd_ok (ok : a.Ok) (ha : may a = true) : (bnd a).Ok := by
  rcases bnd_may ha with ⟨_, h⟩ | h
  · rw [h]; exact rz_ok
  · rw [h]; exact ok
theorem has_bnd (ha : may a = true) (x y : Int) : has (bnd a) x y = has a x y := by
  rcases bnd_may ha with ⟨he, h⟩ | h
  · rw [h, has_rz, has_emp he]
  · rw [h]
theorem has_in (ha : may a = true) {x y : Int} (h : has a x y = true) : -16777216 ≤ x ∧ x < 16777216 ∧ -16777216 ≤ y ∧ y < 16777216 := by
  rcases may_cases ha with he | ⟨k1, k2, k3, k4, k5, k6⟩
  · rw [has_emp he] at h; cases h
  · have := has_iff.1 h
    omega
theorem sh_ok (ha : may a = true) {u v : Nat} (hu : u < 16777216) (hv : v < 16777216) : (sh a u v).Ok := by
  rcases may_cases ha with he | ka
  · rw [sh_emp he]; exact rz_ok
  · rw [sh_full ka.emp]
    obtain ⟨k1, k2, k3, k4, k5, k6⟩ := ka
    exact ⟨by dsimp only; omega, by dsimp only; omega, by dsimp only; omega, by dsimp only; omega⟩
theorem has_sh (a : Rc) (x y u v : Int) : has (sh a u v) (x + u) (y + v) = has a x y := by
  cases he : emp a
  · rw [sh_full he]
    apply Bool.eq_iff_iff.2
    rw [has_iff, has_iff]
    dsimp only
    omega
  · rw [sh_emp he, has_rz, has_emp he]
theorem has_cut (ha : may a = true) (hb : may b = true) (x y : Int) : has (cut a b) x y = (has a x y && has b x y) := by
  rcases may_cases ha with he | ka
  · rw [cut_emp1 he, has_rz, has_emp he]; rfl
  · rcases may_cases hb with hf | kb
    · rw [cut_emp2 a hf, has_rz, has_emp hf, Bool.and_false]
    · apply Bool.eq_iff_iff.2
      rw [Bool.and_eq_true, has_iff, has_iff, has_iff]
      have s := cut_sum ka kb
      obtain ⟨k1, k2, k3, k4, k5, k6⟩ := ka
      obtain ⟨l1, l2, l3, l4, l5, l6⟩ := kb
      rw [s]
      by_cases h1 : min (a.x + a.w) (b.x + b.w) ≤ max a.x b.x
      · rw [oft_left h1]
        simp only [rz]
        omega
      · by_cases h2 : min (a.y + a.h) (b.y + b.h) ≤ max a.y b.y
        · rw [oft_top h2]
          simp only [rz]
          omega
        · rw [oft_full h1 h2]
          dsimp only
          omega
theorem has_cov (ha : may a = true) (hb : may b = true) {x y : Int} (h : has a x y = true ∨ has b x y = true) : has (cov a b) x y = true := by
  rcases may_cases ha with he | ka
  · rw [cov_emp1 he]
    rcases h with h | h
    · rw [has_emp he] at h; cases h
    · rcases may_cases hb with hf | kb
      · rw [has_emp hf] at h; cases h
      · rw [pln_full kb.emp]; exact h
  · rcases may_cases hb with hf | kb
    · rw [cov_emp2 ka.emp hf]
      rcases h with h | h
      · exact h
      · rw [has_emp hf] at h; cases h
    · rw [cov_sum ka kb]
      rw [has_iff, has_iff] at h
      rw [has_iff]
      dsimp only
      omega
end Go.Proofs.YtmiapccngeafkaaDoor

/- The cover of many: in any order; rectangles of a slice. -/
namespace Go.Proofs.YtmiapccngeafkaaDoor
open Go Go.RowKit

theorem may_rz : may rz = true := by decide
theorem may_of {a : Rc} (h : a = rz ∨ Ck a) : may a = true := by
  rcases h with rfl | h
  · exact may_rz
  · simp [may, dck_iff.2 h]
theorem may_cov {a b : Rc} (ha : may a = true) (hb : may b = true) : may (cov a b) = true := may_of (cov_may ha hb)

theorem cov_swap {a b : Rc} (ha : may a = true) (hb : may b = true) : cov a b = cov b a := by
  rcases may_cases ha with he | ka
  · rw [cov_emp1 he]
    rcases may_cases hb with hf | kb
    · rw [cov_emp1 hf, pln_emp he, pln_emp hf]
    · rw [cov_emp2 kb.emp he, pln_full kb.emp]
  · rcases may_cases hb with hf | kb
    · rw [cov_emp1 hf, cov_emp2 ka.emp hf, pln_full ka.emp]
    · exact cov_comm ka kb

theorem pln_pln (a : Rc) : pln (pln a) = pln a := by
  cases he : emp a
  · rw [pln_full he, pln_full he]
  · rw [pln_emp he]; rfl
theorem cov_rz (a : Rc) : cov rz a = pln a := cov_emp1 rfl a
theorem cov_pln {a : Rc} (h : emp a = false) (b : Rc) : cov a (pln b) = cov a b := by
  cases hf : emp b
  · rw [pln_full hf]
  · rw [pln_emp hf, cov_emp2 h rfl, cov_emp2 h hf]

theorem cov_assoc {a b c : Rc} (ha : may a = true) (hb : may b = true) (hc : may c = true) : cov (cov a b) c = cov a (cov b c) := by
  rcases may_cases ha with he | ka
  · rw [cov_emp1 he, cov_emp1 he]
    rcases may_cases hb with hf | kb
    · rw [pln_emp hf, cov_rz, cov_emp1 hf, pln_pln]
    · rw [pln_full kb.emp]
      rcases may_cases hc with hg | kc
      · rw [cov_emp2 kb.emp hg, pln_full kb.emp]
      · rw [pln_full (cov_ck kb kc).emp]
  · rcases may_cases hb with hf | kb
    · rw [cov_emp2 ka.emp hf, cov_emp1 hf, cov_pln ka.emp]
    · rcases may_cases hc with hg | kc
      · rw [cov_emp2 (cov_ck ka kb).emp hg, cov_emp2 kb.emp hg]
      · rw [cov_sum (cov_ck ka kb) kc, cov_sum ka (cov_ck kb kc), cov_sum ka kb, cov_sum kb kc, Rc.mk.injEq]
        dsimp only
        omega

/-- The cover of the first k. -/
def acc (x : Nat → Rc) : Nat → Rc
  | 0 => rz
  | k + 1 => cov (acc x k) (x k)

theorem acc_plain (x : Nat → Rc) (k : Nat) (h : ∀ j < k, may (x j) = true) : acc x k = rz ∨ Ck (acc x k) := by
  induction k with
  | zero => exact .inl rfl
  | succ k ih => exact cov_may (may_of (ih fun j hj => h j (by omega))) (h k (by omega))
theorem acc_may (x : Nat → Rc) (k : Nat) (h : ∀ j < k, may (x j) = true) : may (acc x k) = true := may_of (acc_plain x k h)
theorem acc_congr (x y : Nat → Rc) (k : Nat) (h : ∀ j < k, x j = y j) : acc x k = acc y k := by
  induction k with
  | zero => rfl
  | succ k ih => rw [acc, acc, ih fun j hj => h j (by omega), h k (by omega)]
theorem acc_add (x : Nat → Rc) (i k : Nat) (h : ∀ j < i + k, may (x j) = true) : acc x (i + k) = cov (acc x i) (acc (fun j => x (i + j)) k) := by
  induction k with
  | zero =>
    show acc x i = cov (acc x i) rz
    rw [cov_swap (acc_may x i fun j hj => h j (by omega)) may_rz, cov_rz]
    rcases acc_plain x i (fun j hj => h j (by omega)) with e | e
    · rw [e]; rfl
    · rw [pln_full e.emp]
  | succ k ih =>
    show cov (acc x (i + k)) (x (i + k)) = cov (acc x i) (cov (acc (fun j => x (i + j)) k) (x (i + k)))
    rw [ih fun j hj => h j (by omega), cov_assoc (acc_may x i fun j hj => h j (by omega)) (acc_may _ k fun j hj => h (i + j) (by omega)) (h (i + k) (by omega))]

/-- Begun anywhere, round and round: the same. -/
theorem acc_turn (x : Nat → Rc) (n d : Nat) (hd : d < n) (h : ∀ j < n, may (x j) = true) : acc (fun j => x ((j + d) % n)) n = acc x n := by
  obtain ⟨e, rfl⟩ : ∃ e, n = d + e := ⟨n - d, by omega⟩
  have h1 := acc_add x d e h
  have h2 := acc_add (fun j => x ((j + d) % (d + e))) e d (fun j hj => h _ (Nat.mod_lt _ (by omega)))
  rw [show d + e = e + d from Nat.add_comm d e] at h1 ⊢
  rw [show d + e = e + d from Nat.add_comm d e] at h2
  rw [h1, h2]
  have e1 : acc (fun j => x ((j + d) % (e + d))) e = acc (fun j => x (d + j)) e := acc_congr _ _ e fun j hj => by
    show x ((j + d) % (e + d)) = x (d + j)
    rw [Nat.mod_eq_of_lt (by omega), Nat.add_comm]
  have e2 : acc (fun j => x ((e + j + d) % (e + d))) d = acc x d := acc_congr _ _ d fun j hj => by
    show x ((e + j + d) % (e + d)) = x j
    rw [show e + j + d = j + (e + d) by omega, Nat.add_mod_right, Nat.mod_eq_of_lt (by omega)]
  rw [e1, e2]
  exact cov_swap (acc_may _ e fun j hj => h _ (by omega)) (acc_may x d fun j hj => h j (by omega))

/-- The j-th rectangle. -/
def rcOf (l : List (List Int)) (j : Nat) : Rc := match l[j]? with
  | some [x, y, z, u] => ⟨x, y, z, u⟩
  | _ => rz

/-- A rectangle's four cells. -/
structure El (u : World) (b o : Nat) (r : Rc) : Prop where
  lt : b < u.heap.size
  c0 : u.cell? ⟨b, o, none⟩ = some (.int .i64 r.x)
  c1 : u.cell? ⟨b, o + 1, none⟩ = some (.int .i64 r.y)
  c2 : u.cell? ⟨b, o + 2, none⟩ = some (.int .i64 r.w)
  c3 : u.cell? ⟨b, o + 3, none⟩ = some (.int .i64 r.h)

theorem El.on {w u : World} {b o : Nat} {r : Rc} (h : El w b o r) (hb : Below w.heap.size w u) : El u b o r :=
  ⟨Nat.lt_of_lt_of_le h.lt hb.size, by rw [hb.cell h.lt]; exact h.c0, by rw [hb.cell h.lt]; exact h.c1, by rw [hb.cell h.lt]; exact h.c2, by rw [hb.cell h.lt]; exact h.c3⟩

theorem RdN.el {w : World} {a : Option Addr} {n c : Nat} {l : List (List Int)} (h : RdN 4 w a n c l) (j : Nat) (hj : j < n) : ∃ b off, a = some ⟨b, off, none⟩ ∧ (rcOf l j).Ok ∧ El w b (off + j * 4) (rcOf l j) := by
  obtain ⟨b, off, y, rfl, hb, hy, hl, hr, hc⟩ := h.at_ (by omega) j hj
  match y, hl with
  | [x, y, z, u], _ =>
    have e : rcOf l j = ⟨x, y, z, u⟩ := by rw [rcOf, hy]
    rw [e]
    exact ⟨b, off, rfl, ⟨hr x (by simp), hr y (by simp), hr z (by simp), hr u (by simp)⟩, hb, hc 0 x rfl, by rw [Nat.add_assoc]; exact hc 1 y rfl, by rw [Nat.add_assoc]; exact hc 2 z rfl, by rw [Nat.add_assoc]; exact hc 3 u rfl⟩
end Go.Proofs.YtmiapccngeafkaaDoor

/- Slices of rectangles: read, and of a call's own. -/
namespace Go.Proofs.YtmiapccngeafkaaDoor
open Go Go.RowKit

theorem El.all {u : World} {b o : Nat} {r : Rc} (h : El u b o r) : u.cell? ⟨b, o, none⟩ = some (.int .i64 r.x) ∧ u.cell? ⟨b, o + 1, none⟩ = some (.int .i64 r.y) ∧ u.cell? ⟨b, o + 2, none⟩ = some (.int .i64 r.w) ∧ u.cell? ⟨b, o + 3, none⟩ = some (.int .i64 r.h) := ⟨h.c0, h.c1, h.c2, h.c3⟩
theorem El.drewN {u : World} {b o : Nat} {r : Rc} (h : El u b o r) (q : Nat) : El (u.drewN q) b o r := ⟨h.lt, h.c0, h.c1, h.c2, h.c3⟩

/-- A slice whose first n elements are the rectangles l. -/
structure RdC (w : World) (a : Option Addr) (n c : Nat) (l : List Rc) : Prop where
  len : l.length = n
  le : n ≤ c
  max : c ≤ maxLen
  hnil : a = none → c = 0
  pl : 0 < n → ∃ b off, a = some ⟨b, off, none⟩ ∧ b < w.heap.size ∧ ∀ j r, l[j]? = some r → El w b (off + j * 4) r
  ok : ∀ r ∈ l, r.Ok

theorem RdC.on {w u : World} {a : Option Addr} {n c : Nat} {l : List Rc} (h : RdC w a n c l) (hb : Below w.heap.size w u) : RdC u a n c l :=
  ⟨h.len, h.le, h.max, h.hnil, fun hn => by
    obtain ⟨b, off, e, h1, h2⟩ := h.pl hn
    exact ⟨b, off, e, Nat.lt_of_lt_of_le h1 hb.size, fun j r hr => (h2 j r hr).on hb⟩, h.ok⟩
theorem RdC.drewN {w : World} {a : Option Addr} {n c : Nat} {l : List Rc} (h : RdC w a n c l) (q : Nat) : RdC (w.drewN q) a n c l :=
  ⟨h.len, h.le, h.max, h.hnil, fun hn => by
    obtain ⟨b, off, e, h1, h2⟩ := h.pl hn
    exact ⟨b, off, e, h1, fun j r hr => (h2 j r hr).drewN q⟩, h.ok⟩
theorem RdC.nil (w : World) : RdC w none 0 0 [] := ⟨rfl, Nat.le_refl _, Nat.zero_le _, fun _ => rfl, fun h => absurd h (by omega), by simp⟩
theorem RdC.small {w : World} {a : Option Addr} {n c : Nat} {l : List Rc} (h : RdC w a n c l) : n ≤ 9223372036854775807 ∧ c ≤ 9223372036854775807 := by
  have h1 := h.le
  have h2 := h.max
  simp only [maxLen] at h2
  omega
theorem RdC.el {w : World} {a : Option Addr} {n c : Nat} {l : List Rc} (h : RdC w a n c l) {j : Nat} (hj : j < n) : ∃ b off r, a = some ⟨b, off, none⟩ ∧ b < w.heap.size ∧ l[j]? = some r ∧ r.Ok ∧ El w b (off + j * 4) r := by
  have hl := h.len
  obtain ⟨b, off, e, h1, h2⟩ := h.pl (by omega)
  have hr : l[j]? = some l[j] := List.getElem?_eq_getElem (by omega)
  exact ⟨b, off, _, e, h1, hr, h.ok _ (List.mem_of_getElem? hr), h2 j _ hr⟩

/-- A rectangle's cells. -/
def rcc (r : Rc) : List Value := [.int .i64 r.x, .int .i64 r.y, .int .i64 r.w, .int .i64 r.h]
def rccs (l : List Rc) : List Value := l.flatMap rcc
theorem rccs_length (l : List Rc) : (rccs l).length = l.length * 4 := by
  induction l with
  | nil => rfl
  | cons x l ih =>
    rw [rccs, List.flatMap_cons, List.length_append, List.length_cons]
    show 4 + (rccs l).length = _
    omega
theorem rccs_append (a b : List Rc) : rccs (a ++ b) = rccs a ++ rccs b := by simp [rccs]
theorem rccs_cons (r : Rc) (l : List Rc) : rccs (r :: l) = .int .i64 r.x :: .int .i64 r.y :: .int .i64 r.w :: .int .i64 r.h :: rccs l := rfl
theorem rccs_one (l : List Rc) : ∀ u ∈ rccs l, u.oneCell' = true := by
  intro u hu
  obtain ⟨x, _, hx⟩ := List.mem_flatMap.1 hu
  simp only [rcc, List.mem_cons, List.not_mem_nil, or_false] at hx
  rcases hx with rfl | rfl | rfl | rfl <;> rfl
theorem rccs_at (l : List Rc) (j : Nat) (x : Rc) (h : l[j]? = some x) : (rccs l)[j * 4]? = some (.int .i64 x.x) ∧ (rccs l)[j * 4 + 1]? = some (.int .i64 x.y) ∧ (rccs l)[j * 4 + 2]? = some (.int .i64 x.w) ∧ (rccs l)[j * 4 + 3]? = some (.int .i64 x.h) := by
  induction l generalizing j with
  | nil => simp at h
  | cons y l ih =>
    cases j with
    | zero =>
      simp only [List.getElem?_cons_zero, Option.some.injEq] at h
      subst h
      rw [rccs_cons]
      exact ⟨rfl, rfl, rfl, rfl⟩
    | succ j =>
      obtain ⟨h1, h2, h3, h4⟩ := ih j (by simpa using h)
      rw [rccs_cons, show (j + 1) * 4 = j * 4 + 1 + 1 + 1 + 1 by omega]
      simp only [List.getElem?_cons_succ]
      exact ⟨h1, h2, h3, h4⟩

theorem cells_of {w : World} {b off : Nat} {l : List Rc} (hc : ∀ j r, l[j]? = some r → El w b (off + j * 4) r) : ∀ j u, (rccs l)[j]? = some u → w.cell? ⟨b, off + j, none⟩ = some u := fun j u hu => by
  have hj : j < l.length * 4 := by
    rcases Nat.lt_or_ge j (l.length * 4) with h' | h'
    · exact h'
    · rw [List.getElem?_eq_none (by rw [rccs_length]; exact h')] at hu; cases hu
  obtain ⟨k, m, hm, rfl⟩ : ∃ k m, m < 4 ∧ j = k * 4 + m := ⟨j / 4, j % 4, by omega, by omega⟩
  have hr : l[k]? = some l[k] := List.getElem?_eq_getElem (by omega)
  obtain ⟨g1, g2, g3, g4⟩ := rccs_at l k _ hr
  obtain ⟨_, c0, c1, c2, c3⟩ := hc k _ hr
  obtain rfl | rfl | rfl | rfl : m = 0 ∨ m = 1 ∨ m = 2 ∨ m = 3 := by omega
  · rw [Nat.add_zero] at hu ⊢; rw [c0, ← hu, g1]
  · rw [← Nat.add_assoc, c1, ← hu, g2]
  · rw [← Nat.add_assoc, c2, ← hu, g3]
  · rw [← Nat.add_assoc, c3, ← hu, g4]

/-- What is appended by 'append(x, l...)'. -/
theorem RdC.src {P : Program} {w : World} {a : Option Addr} {n c : Nat} {l : List Rc} (h : RdC w a n c l) {t e : TypeId} (ht : P.underlying t = some (.slice e)) : Src P 4 t (.slice a n c) n (rccs l) w := by
  have h3 := h.len
  cases a with
  | none =>
    have h1 := h.hnil rfl
    have h2 := h.le
    obtain rfl : n = 0 := by omega
    obtain rfl : l = [] := List.eq_nil_of_length_eq_zero h3
    exact Src.ofNil w ht c
  | some x =>
    refine Src.ofSlice w ht x n c (rccs l) (by rw [rccs_length, h3]) (fun j u hu => ?_) (rccs_one l)
    rcases Nat.eq_zero_or_pos n with h0 | h0
    · obtain rfl : l = [] := List.eq_nil_of_length_eq_zero (by omega)
      simp [rccs] at hu
    · obtain ⟨b, off, e1, _, h2⟩ := h.pl h0
      cases e1
      rw [Go.WideShapes.add_plain]
      exact cells_of h2 j u hu

theorem el_of_owns {w : World} {base e n g c : Nat} {l : List Rc} (h : w.ownsRow base e 4 (.slice (some ⟨g, 0, none⟩) n c) n (rccs l)) : g < w.heap.size ∧ base ≤ g ∧ ∀ j r, l[j]? = some r → El w g (0 + j * 4) r := by
  have hg := h.lt g rfl
  have hl : l.length = n := by have := h.1; rw [rccs_length] at this; omega
  refine ⟨hg.2, hg.1, fun j r hr => ?_⟩
  obtain ⟨g1, g2, g3, g4⟩ := rccs_at l j r hr
  have hj : j < n := by
    rcases Nat.lt_or_ge j n with h' | h'
    · exact h'
    · rw [List.getElem?_eq_none (by omega)] at hr; cases hr
  rw [Nat.zero_add]
  exact ⟨hg.2, by rw [h.cellAt _ (by omega)]; exact g1, by rw [h.cellAt _ (by omega)]; exact g2, by rw [h.cellAt _ (by omega)]; exact g3, by rw [h.cellAt _ (by omega)]; exact g4⟩

theorem rdc_of_owns {w : World} {base e n : Nat} {v : Value} {l : List Rc} (h : w.ownsRow base e 4 v n (rccs l)) (ok : ∀ r ∈ l, r.Ok) : ∃ a c, v = .slice a n c ∧ RdC w a n c l := by
  have hl : l.length = n := by have := h.1; rw [rccs_length] at this; omega
  rcases h.2 with ⟨rfl, rfl⟩ | ⟨g, cap, cur, rfl, hb, hg, hn, hm, _, _⟩
  · obtain rfl : l = [] := List.eq_nil_of_length_eq_zero hl
    exact ⟨none, 0, rfl, RdC.nil w⟩
  · obtain ⟨h1, h2, h3⟩ := el_of_owns h
    exact ⟨some ⟨g, 0, none⟩, cap, rfl, hl, hn, hm, (fun h => by cases h), fun _ => ⟨g, 0, rfl, h1, h3⟩, ok⟩

theorem rdc_of_rdn {w : World} {a : Option Addr} {n c : Nat} {l : List (List Int)} (h : RdN 4 w a n c l) : RdC w a n c ((List.range n).map (rcOf l)) := by
  refine ⟨by simp, h.le, h.max, h.hnil, fun hn => ?_, fun r hr => ?_⟩
  · obtain ⟨b, off, rfl, _, he⟩ := h.el 0 hn
    refine ⟨b, off, rfl, he.lt, fun j r hr => ?_⟩
    rw [List.getElem?_map] at hr
    obtain ⟨k, hk, rfl⟩ := Option.map_eq_some_iff.1 hr
    have hj : j < n := by
      rcases Nat.lt_or_ge j n with h' | h'
      · exact h'
      · rw [List.getElem?_eq_none (by simpa using h')] at hk; cases hk
    rw [List.getElem?_range hj] at hk
    cases hk
    obtain ⟨b', off', e, _, he'⟩ := h.el j hj
    cases e
    exact he'
  · obtain ⟨j, hj, rfl⟩ := List.mem_map.1 hr
    obtain ⟨_, _, _, ok, _⟩ := h.el j (List.mem_range.1 hj)
    exact ok

theorem infoC : (Tryd.prog.info? 24).map (fun i => (i.zero, i.size, i.bytes)) = some (some (.agg #[.int .i64 0, .int .i64 0, .int .i64 0, .int .i64 0]), 4, 32) := by kernel_rfl
theorem infoI : (Tryd.prog.info? 3).map (fun i => (i.zero, i.size, i.bytes)) = some (some (.int .i64 0), 1, 8) := by kernel_rfl
theorem info3 {P : Program} {e : TypeId} {z : Value} {n m : Nat} (h : (P.info? e).map (fun i => (i.zero, i.size, i.bytes)) = some (some z, n, m)) : ∃ i, P.info? e = some i ∧ i.zero = some z ∧ i.size = n ∧ i.bytes = m := by
  obtain ⟨i, hi, hz⟩ := Option.map_eq_some_iff.1 h
  simp only [Prod.mk.injEq] at hz
  exact ⟨i, hi, hz.1, hz.2.1, hz.2.2⟩
theorem fits32 {need : Nat} (h : need ≤ 1000000000) : ∀ old, old < need → Builtin.nextslicecap need old * 32 ≤ 281474976710656 := fun old ho => by
  have := nextslicecap_near ho
  omega
theorem fitsI {need : Nat} (h : need ≤ 1000000000) : ∀ old, old < need → Builtin.nextslicecap need old * 8 ≤ 281474976710656 := fun old ho => by
  have := nextslicecap_near ho
  omega

/-- A slice of rectangles handed back. -/
def Ret (w : World) (l : List Rc) (e : Ending) (w' : World) : Prop := ∃ a c, e = .returned (.slice a l.length c) ∧ RdC w' a l.length c l ∧ Below w.heap.size w w'
end Go.Proofs.YtmiapccngeafkaaDoor

/- The contracts of the program's follows, sameSpan, first, touch. -/
namespace Go.Proofs.YtmiapccngeafkaaDoor
open Go Go.RowKit

theorem drop_at {α : Type} {l : List α} {j : Nat} {x : α} (h : l[j]? = some x) : l.drop j = x :: l.drop (j + 1) := by
  have hj : j < l.length := (List.getElem?_eq_some_iff.1 h).1
  rw [List.drop_eq_getElem_cons hj]
  rw [List.getElem?_eq_getElem hj] at h
  rw [Option.some.inj h]

set_option maxRecDepth 100000 in
theorem follows_any (a r : Rc) (hx : -9223372036854775808 ≤ a.x + a.w ∧ a.x + a.w ≤ 9223372036854775807) (hy : -9223372036854775808 ≤ a.y + a.h ∧ a.y + a.h ≤ 9223372036854775807) (w : World) :
    Calls Tryd.prog 65 #[.agg #[.int .i64 a.x, .int .i64 a.y, .int .i64 a.w, .int .i64 a.h], .agg #[.int .i64 r.x, .int .i64 r.y, .int .i64 r.w, .int .i64 r.h]] w fun e w' => e = .returned (.bool (flw a r)) ∧ Below w.heap.size w w' := by
  have HB : Hid (Below w.heap.size w ((w.alloc (ob a)).alloc (ob r))) := (box2 a r (Below.refl _ _)).2.2
  unfold ob at HB
  unfold flw
  cases h1 : (r.y == a.y)
  · rw [if_neg (by simpa using h1)]
    go_enter Tryd.func65, Tryd.ntmps65
    go_wp2
    go_ret
    exact ⟨rfl, HB.out⟩
  · rw [if_pos (by simpa using h1)]
    cases h2 : (r.h == a.h)
    · rw [decide_eq_false (by simpa using h2)]
      go_enter Tryd.func65, Tryd.ntmps65
      go_wp2
      go_ret
      exact ⟨rfl, HB.out⟩
    · rw [decide_eq_true (by simpa using h2)]
      go_enter Tryd.func65, Tryd.ntmps65
      go_wp2
      go_ret
      exact ⟨rfl, HB.out⟩

/-- The same X and W. -/
def ssp (a b : Rc) : Bool := decide (a.x = b.x) && decide (a.w = b.w)

set_option maxRecDepth 100000 in
theorem samespan_any (a r : Rc) (w : World) :
    Calls Tryd.prog 77 #[.agg #[.int .i64 a.x, .int .i64 a.y, .int .i64 a.w, .int .i64 a.h], .agg #[.int .i64 r.x, .int .i64 r.y, .int .i64 r.w, .int .i64 r.h]] w fun e w' => e = .returned (.bool (ssp a r)) ∧ Below w.heap.size w w' := by
  have HB : Hid (Below w.heap.size w ((w.alloc (ob a)).alloc (ob r))) := (box2 a r (Below.refl _ _)).2.2
  unfold ob at HB
  unfold ssp
  cases h1 : (a.x == r.x)
  · rw [decide_eq_false (by simpa using h1)]
    go_enter Tryd.func77, Tryd.ntmps77
    go_wp2
    go_ret
    exact ⟨rfl, HB.out⟩
  · rw [decide_eq_true (by simpa using h1)]
    go_enter Tryd.func77, Tryd.ntmps77
    go_wp2
    go_ret
    exact ⟨rfl, HB.out⟩

/-- How long the first band is, of those behind its first. -/
def bl (y : Int) (t : List Rc) : Nat := (t.takeWhile fun a => decide (a.y = y)).length
theorem bl_cons (y : Int) (r : Rc) (t : List Rc) : bl y (r :: t) = if r.y = y then bl y t + 1 else 0 := by
  unfold bl
  rw [List.takeWhile_cons]
  by_cases h : r.y = y
  · rw [if_pos (by simp [h]), if_pos h, List.length_cons]
  · rw [if_neg (by simp [h]), if_neg h]; rfl
theorem bl_nil (y : Int) : bl y [] = 0 := rfl
theorem band_len (r : Rc) (t : List Rc) : (band r t).length = bl r.y t + 1 := rfl
theorem band_take (r : Rc) (t : List Rc) : (r :: t).take (bl r.y t + 1) = band r t := by
  rw [← band_len, ← band_behind, List.take_left]
theorem band_drop (r : Rc) (t : List Rc) : (r :: t).drop (bl r.y t + 1) = behind r t := by
  rw [← band_len, ← band_behind, List.drop_left]

set_option maxRecDepth 100000 in
set_option maxHeartbeats 1000000 in
theorem first_any (a : Option Addr) (n c : Nat) (r : Rc) (t : List Rc) (w : World) (hr : RdC w a n c (r :: t)) :
    Calls Tryd.prog 74 #[.slice a n c] w fun e w' => e = .returned (.slice a (bl r.y t + 1) c) ∧ ∃ q, w' = w.drewN q := by
  have hn := hr.len
  obtain ⟨hn63, hc63⟩ := hr.small
  have hle := hr.le
  obtain ⟨b, off, rfl, hb, hel⟩ := hr.pl (by rw [← hn]; simp)
  have HE := hid hel
  have h0 := hel 0 r rfl
  have HL : Hid (bl r.y t + 1 ≤ n) := by
    rw [Hid, ← hn, List.length_cons]
    have := (List.takeWhile_sublist (p := fun a : Rc => decide (a.y = r.y)) (l := t)).length_le
    unfold bl
    omega
  obtain ⟨_, _, y0, _, _⟩ := h0
  simp only [Nat.zero_mul, Nat.add_zero] at y0
  clear hr hel
  go_enter Tryd.func74, Tryd.ntmps74
  go_wp2
  go_loopw [3] (fun i wr => ∃ k : Nat, i = .int .i64 k ∧ k + bl r.y ((r :: t).drop k) = bl r.y t + 1 ∧ 1 ≤ k ∧ k ≤ n ∧ ∃ q, wr = w.drewN q) (fun i _ => n - (numOf i).toNat)
  case atStart => exact ⟨1, rfl, by rw [List.drop_one, List.tail_cons]; omega, by omega, by rw [← hn]; simp, 0, rfl⟩
  case round =>
    obtain ⟨k, rfl, hk, hk1, hkn, q, rfl⟩ := hrel
    by_cases hgo : k < n
    · have e1 : decide ((k : Int) < n) = true := decide_eq_true (by omega)
      have hkl : k < (r :: t).length := by omega
      obtain ⟨s, hs⟩ : ∃ s, (r :: t)[k]? = some s := ⟨_, List.getElem?_eq_getElem hkl⟩
      have HD : Hid ((r :: t).drop k = s :: (r :: t).drop (k + 1)) := by rw [Hid, List.drop_eq_getElem_cons hkl]; congr 1; rw [List.getElem?_eq_getElem hkl] at hs; exact Option.some.inj hs
      obtain ⟨_, _, y1, _, _⟩ := HE.out k s hs
      have HK := hid hk
      clear hk hs hkl hn
      cases hq : (s.y == r.y)
      · have HK2 : Hid (bl r.y t + 1 = k) := by
          have := HK.out
          rw [HD.out, bl_cons, if_neg (by simpa using hq)] at this
          exact this.symm
        go_wp2
        go_quiet (fail)
        go_wp2
        go_ret
        rw [HK2.out]
        exact ⟨rfl, _, rfl⟩
      · have HK2 : Hid (k + 1 + bl r.y ((r :: t).drop (k + 1)) = bl r.y t + 1) := by
          have := HK.out
          rw [HD.out, bl_cons, if_pos (by simpa using hq)] at this
          rw [Hid]
          omega
        go_wp2
        go_quiet (fail)
        go_wp2
        go_roundw
        case rel => exact ⟨k + 1, by go_num, HK2.out, by omega, by omega, _, rfl⟩
        case measure => simp [numOf]; omega
    · have e1 : decide ((k : Int) < n) = false := decide_eq_false (by omega)
      obtain rfl : k = n := by omega
      have HK2 : Hid (bl r.y t + 1 = k) := by rw [List.drop_eq_nil_of_le (by omega), bl_nil] at hk; exact hk.symm
      clear hk hn
      go_wp2
      go_quiet (fail)
      go_wp2
      go_ret
      rw [HK2.out]
      exact ⟨rfl, _, rfl⟩
end Go.Proofs.YtmiapccngeafkaaDoor

/- The contracts of the program's touch, slices.EqualFunc, parted, Check. -/
namespace Go.Proofs.YtmiapccngeafkaaDoor
open Go Go.RowKit

/-- A slice's length. -/
def lenOf : Value → Nat
  | .slice _ n _ => n
  | _ => 0

theorem RdC.take {w : World} {a : Option Addr} {n c : Nat} {l : List Rc} (h : RdC w a n c l) {k : Nat} (hk : k ≤ n) : RdC w a k c (l.take k) := by
  have hl := h.len
  have hle := h.le
  refine ⟨by rw [List.length_take]; omega, by omega, h.max, h.hnil, fun hk0 => ?_, fun r hr => h.ok r (List.mem_of_mem_take hr)⟩
  obtain ⟨b, off, e, h1, h2⟩ := h.pl (by omega)
  refine ⟨b, off, e, h1, fun j r hr => h2 j r ?_⟩
  rcases Nat.lt_or_ge j k with hj | hj
  · rwa [List.getElem?_take_of_lt hj] at hr
  · rw [List.getElem?_eq_none (by rw [List.length_take]; omega)] at hr; cases hr
theorem RdC.drop {w : World} {b off n c : Nat} {l : List Rc} (h : RdC w (some ⟨b, off, none⟩) n c l) {k : Nat} (hk : k ≤ n) : RdC w (some ⟨b, off + k * 4, none⟩) (n - k) (c - k) (l.drop k) := by
  have hl := h.len
  have hle := h.le
  have hm := h.max
  refine ⟨by rw [List.length_drop]; omega, by omega, by omega, (fun h => by cases h), fun hk0 => ?_, fun r hr => h.ok r (List.mem_of_mem_drop hr)⟩
  obtain ⟨b', off', e, h1, h2⟩ := h.pl (by omega)
  cases e
  refine ⟨b, off + k * 4, rfl, h1, fun j r hr => ?_⟩
  rw [List.getElem?_drop] at hr
  have := h2 _ _ hr
  rwa [show off + k * 4 + j * 4 = off + (k + j) * 4 by omega]
theorem RdC.none_of {w : World} (a : Option Addr) (c : Nat) (hc : c ≤ maxLen) (hn : a = none → c = 0) : RdC w a 0 c [] := ⟨rfl, Nat.zero_le _, hc, hn, fun h => absurd h (by omega), by simp⟩

set_option maxRecDepth 100000 in
set_option maxHeartbeats 1000000 in
theorem touch_any (a a' : Option Addr) (n c n' c' : Nat) (l : List Rc) (r : Rc) (t : List Rc) (w : World) (h : RdC w a n c l) (h' : RdC w a' n' c' (r :: t)) (hk : ∀ x ∈ l, Ck x) :
    Calls Tryd.prog 75 #[.slice a n c, .slice a' n' c'] w fun e w' => e = .returned (.bool (tch l r.y)) ∧ ∃ q, w' = w.drewN q := by
  have hl := h.len
  have hl' := h'.len
  have hn63 := h.small.1
  have hn63' := h'.small.1
  cases l with
  | nil =>
    obtain rfl : n = 0 := hl.symm
    go_enter Tryd.func75, Tryd.ntmps75
    go_wp2
    go_quiet (fail)
    go_wp2
    go_ret
    exact ⟨rfl, _, rfl⟩
  | cons x l =>
    have hn0 : 0 < n := by rw [← hl]; simp
    have hn1 : 0 < n' := by rw [← hl']; simp
    obtain ⟨b, off, rfl, hb, hel⟩ := h.pl hn0
    obtain ⟨b', off', rfl, hb', hel'⟩ := h'.pl hn1
    obtain ⟨_, _, y0, _, h0⟩ := hel 0 x rfl
    obtain ⟨_, _, y1, _, _⟩ := hel' 0 r rfl
    simp only [Nat.zero_mul, Nat.add_zero] at y0 h0 y1
    obtain ⟨k1, k2, k3, k4, k5, k6⟩ := hk x (by simp)
    have e1 : decide (0 < (n : Int)) = true := decide_eq_true (by omega)
    have e2 : IntKind.i64.wrap (x.y + x.h) = x.y + x.h := by rw [IntKind.wrap_i64]; omega
    clear hel hel' h h' hl hl' hk
    go_enter Tryd.func75, Tryd.ntmps75
    go_wp2
    go_quiet (fail)
    go_wp2
    go_ret
    exact ⟨ret_bool (by simp [tch]; rfl), _, rfl⟩

theorem eqs_cons (a b : Rc) (l m : List Rc) : eqs (a :: l) (b :: m) = (ssp a b && eqs l m) := by
  rw [Bool.eq_iff_iff]
  simp only [eqs, ssp, Bool.and_eq_true, decide_eq_true_eq, List.length_cons, List.zip_cons_cons, List.all_cons]
  constructor
  · rintro ⟨h1, h2, h3⟩; exact ⟨h2, by omega, h3⟩
  · rintro ⟨h2, h1, h3⟩; exact ⟨by omega, h2, h3⟩
theorem eqs_nil : eqs [] [] = true := rfl
theorem eqs_len {l m : List Rc} (h : l.length ≠ m.length) : eqs l m = false := by rw [eqs, decide_eq_false h]; rfl

set_option maxRecDepth 100000 in
set_option maxHeartbeats 1000000 in
theorem equalfunc_any (a a' : Option Addr) (n c n' c' : Nat) (l m : List Rc) (w : World) (h : RdC w a n c l) (h' : RdC w a' n' c' m) :
    Calls Tryd.prog 76 #[.slice a n c, .slice a' n' c', .func (.func 77) #[] #[]] w fun e w' => e = .returned (.bool (eqs l m)) ∧ Below w.heap.size w w' := by
  have hl := h.len
  have hl' := h'.len
  have hn63 := h.small.1
  have hn63' := h'.small.1
  by_cases hnn : n = n'
  · subst hnn
    have H := hid h
    have H' := hid h'
    clear h h'
    go_enter Tryd.func76, Tryd.ntmps76
    go_wp2
    go_loopw [17] (fun i wr => ∃ j : Nat, i = .int .i64 j ∧ j ≤ n ∧ eqs (l.drop j) (m.drop j) = eqs l m ∧ RowKit.Below w.heap.size w wr) (fun i _ => n - (numOf i).toNat)
    case atStart => exact ⟨0, rfl, by omega, rfl, Below.refl _ _⟩
    case round =>
      obtain ⟨j, rfl, hj, hq, hb⟩ := hrel
      by_cases hgo : j < n
      · have e1 : decide ((j : Int) < n) = true := decide_eq_true (by omega)
        obtain ⟨b, off, x, rfl, _, hx, _, he⟩ := (H.out.on hb).el hgo
        obtain ⟨b', off', y, rfl, _, hy, _, he'⟩ := (H'.out.on hb).el hgo
        have HD : Hid (eqs l m = (ssp x y && eqs (l.drop (j + 1)) (m.drop (j + 1)))) := by
          rw [Hid, ← hq, drop_at hx, drop_at hy, eqs_cons]
        obtain ⟨_, c0, c1, c2, c3⟩ := he
        obtain ⟨_, d0, d1, d2, d3⟩ := he'
        have HB := hid hb
        clear hx hy hq hb hl hl'
        have CS := hid (fun w => samespan_any x y w)
        cases hs : ssp x y
        · rw [hs] at CS
          have HE : Hid (eqs l m = false) := by rw [Hid, HD.out, hs]; rfl
          go_wp2_with fail
          refine (CS.out _).mono ?_
          rintro e w2 ⟨rfl, hb2⟩
          obtain ⟨_, _, hb3⟩ := box2 x y hb2
          have HB3 := hid (Below.on HB.out hb3)
          clear hb2 hb3
          go_wp2
          go_ret
          rw [HE.out]
          exact ⟨rfl, HB3.out⟩
        · rw [hs] at CS
          have HE : Hid (eqs (l.drop (j + 1)) (m.drop (j + 1)) = eqs l m) := by rw [Hid, HD.out, hs]; rfl
          go_wp2_with fail
          refine (CS.out _).mono ?_
          rintro e w2 ⟨rfl, hb2⟩
          obtain ⟨_, _, hb3⟩ := box2 x y hb2
          have HB3 := hid (Below.on HB.out hb3)
          clear hb2 hb3
          go_wp2
          go_roundw
          case rel => exact ⟨j + 1, by go_num, by omega, HE.out, HB3.out⟩
          case measure => simp [numOf]; omega
      · have e1 : decide ((j : Int) < n) = false := decide_eq_false (by omega)
        have HE : Hid (eqs l m = true) := by
          rw [Hid, ← hq, List.drop_eq_nil_of_le (by omega), List.drop_eq_nil_of_le (by omega)]
          rfl
        have HB := hid hb
        clear hb hq
        go_wp2
        go_ret
        rw [HE.out]
        exact ⟨rfl, HB.out⟩
  · have HE : Hid (eqs l m = false) := eqs_len (by omega)
    have e1 : ¬ ((n : Int) = n') := by omega
    clear h h' hl hl'
    go_enter Tryd.func76, Tryd.ntmps76
    go_wp2
    go_ret
    rw [HE.out]
    exact ⟨rfl, Below.refl _ _⟩

set_option maxRecDepth 100000 in
set_option maxHeartbeats 1000000 in
theorem parted_any (a : Option Addr) (n c : Nat) (l : List Rc) (w : World) (h : RdC w a n c l) (hk : ∀ x ∈ l, Ck x) :
    Calls Tryd.prog 66 #[.slice a n c] w fun e w' => e = .returned (.bool (prt [] l)) ∧ Below w.heap.size w w' := by
  have H := hid h
  have HK := hid hk
  clear h hk
  go_enter Tryd.func66, Tryd.ntmps66
  go_wp2
  go_loopw [0, 3] (fun v u wr => ∃ (a1 : Option Addr) (n1 c1 : Nat) (l1 : List Rc) (a2 : Option Addr) (n2 c2 : Nat) (l2 : List Rc), v = .slice a1 n1 c1 ∧ u = .slice a2 n2 c2 ∧ RdC wr a1 n1 c1 l1 ∧ RdC wr a2 n2 c2 l2 ∧ (∀ x ∈ l1, Ck x) ∧ (∀ x ∈ l2, Ck x) ∧ prt l2 l1 = prt [] l ∧ RowKit.Below w.heap.size w wr) (fun v _ _ => lenOf v)
  case atStart => exact ⟨a, n, c, l, none, 0, 0, [], rfl, rfl, H.out, RdC.nil w, HK.out, by simp, rfl, Below.refl _ _⟩
  case round =>
    obtain ⟨a1, n1, c1, l1, a2, n2, c2, l2, rfl, rfl, h1, h2, k1, k2, hp, hb⟩ := hrel
    have hn1 := h1.len
    have hs1 := h1.small
    cases l1 with
    | nil =>
      obtain rfl : n1 = 0 := hn1.symm
      have HE : Hid (prt [] l = true) := by rw [Hid, ← hp, prt]
      have HB := hid hb
      clear hb hp h1 h2 hn1
      go_wp2
      go_ret
      rw [HE.out]
      exact ⟨rfl, HB.out⟩
    | cons r t =>
      have hn0 : 0 < n1 := by rw [← hn1]; simp
      have e1 : decide (0 < (n1 : Int)) = true := decide_eq_true (by omega)
      have C1 := hid (fun u (hu : RdC u a1 n1 c1 (r :: t)) => first_any a1 n1 c1 r t u hu)
      have hbl : bl r.y t + 1 ≤ n1 := by
        rw [← hn1, List.length_cons]
        have := (List.takeWhile_sublist (p := fun a : Rc => decide (a.y = r.y)) (l := t)).length_le
        unfold bl
        omega
      have HP := hid hp
      have H1 := hid h1
      have H2 := hid h2
      have HB := hid hb
      have K1 := hid k1
      have K2 := hid k2
      clear hp h1 h2 hb k1 k2 hn1
      go_wp2_with fail
      refine (C1.out _ H1.out).mono ?_
      rintro e w2 ⟨rfl, q, rfl⟩
      clear C1
      have H1 := hid (H1.out.drewN q)
      have H2 := hid (H2.out.drewN q)
      have HB := hid (below_drewN HB.out q)
      have HT := hid (H1.out.take hbl)
      rw [band_take] at HT
      obtain ⟨b, off, rfl, _, _⟩ := H1.out.pl hn0
      have HD := hid (H1.out.drop hbl)
      rw [band_drop] at HD
      have C2 := hid (fun u (h : RdC u _ _ _ _) (h' : RdC u _ _ _ _) => touch_any a2 (some ⟨b, off, none⟩) n2 c2 (bl r.y t + 1) c1 l2 r (t.takeWhile fun a => decide (a.y = r.y)) u h h' K2.out)
      have KB : Hid (∀ x ∈ band r t, Ck x) := fun x hx => K1.out x (by rw [← band_behind]; simp [hx])
      have KD : Hid (∀ x ∈ behind r t, Ck x) := fun x hx => K1.out x (by rw [← band_behind]; simp [hx])
      generalize (wr.drewN q) = w2 at H2 HT HD HB ⊢
      have hle1 := HT.out.le
      have HPT : Hid (prt l2 (r :: t) = if tch l2 r.y = true ∧ eqs l2 (band r t) = true then false else prt (band r t) (behind r t)) := by rw [Hid, prt]
      have HC : Hid (∀ (ad : Option Addr) (u : World), (ad = some ⟨b, off + (bl r.y t + 1) * 4, none⟩ ∨ (ad = some ⟨b, off, none⟩ ∧ c1 = bl r.y t + 1)) → RowKit.Below w2.heap.size w2 u → RdC u ad (n1 - (bl r.y t + 1)) (c1 - (bl r.y t + 1)) (behind r t) ∧ RdC u (some ⟨b, off, none⟩) (bl r.y t + 1) c1 (band r t)) := by
        intro ad u had hu
        refine ⟨?_, HT.out.on hu⟩
        rcases had with rfl | ⟨rfl, hcc⟩
        · exact HD.out.on hu
        · have h1 := HD.out.len
          have h2 := HD.out.le
          have e0 : n1 - (bl r.y t + 1) = 0 := by omega
          rw [e0] at h1 ⊢
          rw [List.eq_nil_of_length_eq_zero h1, hcc, Nat.sub_self]
          exact RdC.none_of _ _ (Nat.zero_le _) (fun h => by cases h)
      have hcl : c1 ≤ 9223372036854775807 := hs1.2
      cases hq1 : tch l2 r.y
      · rw [hq1] at C2
        have HN : Hid (prt (band r t) (behind r t) = prt [] l) := by rw [Hid, ← HP.out, HPT.out, if_neg (by rw [hq1]; simp)]
        go_wp2_with fail
        refine (C2.out _ H2.out HT.out).mono ?_
        rintro e w3 ⟨rfl, q3, rfl⟩
        clear C2 H2 HT HD HP HPT
        have HB3 := hid (below_drewN HB.out q3)
        have HC3 := hid (fun ad h => HC.out ad (w2.drewN q3) h (below_drewN (Below.refl _ _) q3))
        clear HB HC
        generalize w2.drewN q3 = w4 at HB3 HC3 ⊢
        by_cases hcc : c1 = bl r.y t + 1
        · subst hcc
          have HF := hid (HC3.out _ (.inr ⟨rfl, rfl⟩))
          rw [Nat.sub_self] at HF
          clear HC3
          go_wp2
          go_quiet (fail)
          go_wp2
          go_roundw
          case rel => exact ⟨_, _, _, _, _, _, _, _, rfl, rfl, HF.out.1.drewN _, HF.out.2.drewN _, KD.out, KB.out, HN.out, below_drewN HB3.out _⟩
          case measure => simp [lenOf]; omega
        · have HF := hid (HC3.out _ (.inl rfl))
          clear HC3
          go_wp2
          go_quiet (fail)
          go_wp2
          go_roundw
          case rel => exact ⟨_, _, _, _, _, _, _, _, rfl, rfl, HF.out.1.drewN _, HF.out.2.drewN _, KD.out, KB.out, HN.out, below_drewN HB3.out _⟩
          case measure => simp [lenOf]; omega
      · rw [hq1] at C2
        have CE := hid (fun u (h : RdC u _ _ _ _) (h' : RdC u _ _ _ _) => equalfunc_any a2 (some ⟨b, off, none⟩) n2 c2 (bl r.y t + 1) c1 l2 (band r t) u h h')
        go_wp2_with fail
        refine (C2.out _ H2.out HT.out).mono ?_
        rintro e w3 ⟨rfl, q3, rfl⟩
        clear C2
        cases hq2 : eqs l2 (band r t)
        · rw [hq2] at CE
          have HN : Hid (prt (band r t) (behind r t) = prt [] l) := by rw [Hid, ← HP.out, HPT.out, if_neg (by rw [hq2]; simp)]
          go_wp2_with fail
          refine (CE.out _ (H2.out.drewN q3) (HT.out.drewN q3)).mono ?_
          rintro e w4 ⟨rfl, hb4⟩
          clear CE H2 HT HD HP HPT
          have hb4' : Below w2.heap.size w2 w4 := (below_drewN (Below.refl _ _) q3).trans hb4
          have HB3 := hid (Below.on HB.out hb4')
          have HC3 := hid (fun ad h => HC.out ad w4 h hb4')
          clear HB HC hb4 hb4'
          by_cases hcc : c1 = bl r.y t + 1
          · subst hcc
            have HF := hid (HC3.out _ (.inr ⟨rfl, rfl⟩))
            rw [Nat.sub_self] at HF
            clear HC3
            go_wp2
            go_quiet (fail)
            go_wp2
            go_roundw
            case rel => exact ⟨_, _, _, _, _, _, _, _, rfl, rfl, HF.out.1.drewN _, HF.out.2.drewN _, KD.out, KB.out, HN.out, below_drewN HB3.out _⟩
            case measure => simp [lenOf]; omega
          · have HF := hid (HC3.out _ (.inl rfl))
            clear HC3
            go_wp2
            go_quiet (fail)
            go_wp2
            go_roundw
            case rel => exact ⟨_, _, _, _, _, _, _, _, rfl, rfl, HF.out.1.drewN _, HF.out.2.drewN _, KD.out, KB.out, HN.out, below_drewN HB3.out _⟩
            case measure => simp [lenOf]; omega
        · rw [hq2] at CE
          have HN : Hid (prt [] l = false) := by rw [Hid, ← HP.out, HPT.out, if_pos ⟨hq1, hq2⟩]
          go_wp2_with fail
          refine (CE.out _ (H2.out.drewN q3) (HT.out.drewN q3)).mono ?_
          rintro e w4 ⟨rfl, hb4⟩
          have HB3 := hid (Below.on (below_drewN HB.out q3) hb4)
          clear CE H2 HT HD HP HPT HB HC hb4
          go_wp2
          go_ret
          rw [HN.out]
          exact ⟨rfl, HB3.out⟩
end Go.Proofs.YtmiapccngeafkaaDoor

/- The contract of the program's Check. -/
namespace Go.Proofs.YtmiapccngeafkaaDoor
open Go Go.RowKit

theorem chn_no : ∀ {l : List Rc} {j : Nat} {a b : Rc}, l[j]? = some a → l[j + 1]? = some b → flw a b = false → chn l = false
  | [], _, _, _, h, _, _ => by simp at h
  | [_], j, a, b, _, h, _ => by simp at h
  | x :: y :: t, 0, a, b, h, h', hf => by
    simp only [List.getElem?_cons_zero, List.getElem?_cons_succ, Option.some.injEq] at h h'
    subst h h'
    rw [chn, hf]
    rfl
  | x :: y :: t, j + 1, a, b, h, h', hf => by
    rw [List.getElem?_cons_succ] at h h'
    rw [chn, chn_no h h' hf, Bool.and_false]
theorem chn_all : ∀ {l : List Rc}, (∀ j a b, l[j]? = some a → l[j + 1]? = some b → flw a b = true) → chn l = true
  | [], _ => rfl
  | [_], _ => rfl
  | x :: y :: t, h => by
    rw [chn, h 0 x y rfl rfl, chn_all fun j a b h1 h2 => h (j + 1) a b (by rw [List.getElem?_cons_succ]; exact h1) (by rw [List.getElem?_cons_succ]; exact h2)]
    rfl

/-- Whether a list is a region. -/
def rgn (l : List Rc) : Bool := l.all dck && (chn l && prt [] l)
theorem rgn_iff {l : List Rc} : rgn l = true ↔ Reg l := by
  rw [rgn, Bool.and_eq_true, Bool.and_eq_true, List.all_eq_true]
  constructor
  · rintro ⟨h1, h2⟩
    exact (chk_reg fun r hr => dck_iff.1 (h1 r hr)).1 h2
  · intro h
    exact ⟨fun r hr => dck_iff.2 (h.ck r hr), (chk_reg h.ck).2 h⟩
theorem rgn_ck {l : List Rc} {j : Nat} {r : Rc} (hj : l[j]? = some r) (h : dck r = false) : rgn l = false := by
  rw [rgn, Bool.and_eq_false_iff]
  left
  rw [List.all_eq_false]
  exact ⟨r, List.mem_of_getElem? hj, by simp [h]⟩
theorem rgn_chn {l : List Rc} (h : chn l = false) : rgn l = false := by rw [rgn, h]; simp

set_option maxRecDepth 100000 in
set_option maxHeartbeats 2000000 in
theorem regcheck_any (a : Option Addr) (n c : Nat) (l : List Rc) (w : World) (h : RdC w a n c l) :
    Calls Tryd.prog 61 #[.slice a n c] w fun e w' => e = .returned (.bool (rgn l)) ∧ Below w.heap.size w w' := by
  have H := hid h
  have hn63 := h.small.1
  have HL := hid h.len
  clear h
  go_enter Tryd.func61, Tryd.ntmps61
  go_wp2
  go_loopw [7] (fun i wr => ∃ j : Nat, i = .int .i64 j ∧ j ≤ n ∧ (∀ k r, k < j → l[k]? = some r → Ck r) ∧ (∀ k a b, k + 1 < j → l[k]? = some a → l[k + 1]? = some b → flw a b = true) ∧ RowKit.Below w.heap.size w wr) (fun i _ => n - (numOf i).toNat)
  case atStart => exact ⟨0, rfl, by omega, fun k r hk => absurd hk (by omega), fun k r b hk => absurd hk (by omega), Below.refl _ _⟩
  case round =>
    obtain ⟨j, rfl, hj, hK, hF, hb⟩ := hrel
    have HK := hid hK
    have HF := hid hF
    have HB := hid hb
    clear hK hF hb
    by_cases hgo : j < n
    · have e1 : decide ((j : Int) < n) = true := decide_eq_true (by omega)
      obtain ⟨b, off, r, rfl, _, hr, ok, he⟩ := (H.out.on HB.out).el hgo
      obtain ⟨_, c0, c1, c2, c3⟩ := he
      have HR := hid hr
      have CC := hid (fun w => check_any r ok w)
      rw [chk_dck ok] at CC
      have HW := hid (below_new wr (ob r))
      have HX := hid (bx_new wr r)
      clear hr ok
      go_upto_region 4 with fail
      rw [ob] at HW
      generalize hu : wr.alloc (.cells #[.int .i64 r.x, .int .i64 r.y, .int .i64 r.w, .int .i64 r.h] 24) = u at HX HW ⊢
      have HB2 := hid (Below.on HB.out HW.out)
      cases hd : dck r
      · rw [hd] at CC
        have HN := hid (rgn_ck HR.out hd)
        refine wp_region_held_drew (S := fun x => Below u.heap.size u x) (by kernel_rfl) (Below.refl _ _).drew (fun hHeld => ?_)
        have hHeld : Below u.heap.size u u.drew := hHeld
        refine wpAnyH_take (i := 0) (v := ?_) rfl (by kernel_rfl) (by kernel_rfl) (by kernel_rfl) (fun _ _ _ h => h) (Or.inl ⟨by kernel_rfl, ?hy0⟩) (by assumption) ?_
        case hy0 => (intro w hSw; (try dsimp only at hSw); obtain ⟨t00, t01, t02, t03⟩ := (HX.out.on hSw).all; go_simp; try with_reducible rfl)
        try simp only [Act.put, List.getElem_toArray, List.getElem_cons_zero, List.setIfInBounds_toArray, List.set_cons_zero, List.set_cons_succ]
        refine wpAnyH_ready (rs := [1]) (by kernel_rfl) (by simp) ?_
        refine AllReadyH.cons rfl (fun K hK => ?_) AllReadyH.nil
        go_simp
        go_wp2_with fail
        refine (CC.out _).mono ?_
        rintro e u201 ⟨rfl, hb⟩
        replace hHeld := Below.on hHeld hb
        refine hK.out _ _ hHeld (fun _ => ?_)
        clear hK K hb
        refine wpAnyH_take (i := 2) (v := ?_) rfl (by kernel_rfl) (by kernel_rfl) (by kernel_rfl) (fun _ _ _ h => h) (Or.inl ⟨by kernel_rfl, ?hy2⟩) (by assumption) ?_
        case hy2 => (intro w hSw; (try dsimp only at hSw); obtain ⟨t00, t01, t02, t03⟩ := (HX.out.on hSw).all; go_simp; try with_reducible rfl)
        try simp only [Act.put, List.getElem_toArray, List.getElem_cons_zero, List.getElem_cons_succ, List.setIfInBounds_toArray, List.set_cons_zero, List.set_cons_succ]
        refine wpAnyH_take (i := 3) (v := ?_) rfl (by kernel_rfl) (by kernel_rfl) (by kernel_rfl) (fun _ _ _ h => h) (Or.inl ⟨by kernel_rfl, ?hy3⟩) (by assumption) ?_
        case hy3 => (intro w hSw; (try dsimp only at hSw); obtain ⟨t00, t01, t02, t03⟩ := (HX.out.on hSw).all; go_simp; try with_reducible rfl)
        try simp only [Act.put, List.getElem_toArray, List.getElem_cons_zero, List.getElem_cons_succ, List.setIfInBounds_toArray, List.set_cons_zero, List.set_cons_succ]
        refine wpAnyH_take (i := 4) (v := undef) rfl (by kernel_rfl) (by kernel_rfl) (by kernel_rfl) (fun _ _ _ h => h) (Or.inr ⟨by kernel_rfl, rfl⟩) (by assumption) ?_
        try simp only [Act.put, List.getElem_toArray, List.getElem_cons_zero, List.getElem_cons_succ, List.setIfInBounds_toArray, List.set_cons_zero, List.set_cons_succ]
        refine wpAnyH_take (i := 5) (v := undef) rfl (by kernel_rfl) (by kernel_rfl) (by kernel_rfl) (fun _ _ _ h => h) (Or.inr ⟨by kernel_rfl, rfl⟩) (by assumption) ?_
        try simp only [Act.put, List.getElem_toArray, List.getElem_cons_zero, List.getElem_cons_succ, List.setIfInBounds_toArray, List.set_cons_zero, List.set_cons_succ]
        refine wpAnyH_take (i := 6) (v := undef) rfl (by kernel_rfl) (by kernel_rfl) (by kernel_rfl) (fun _ _ _ h => h) (Or.inr ⟨by kernel_rfl, rfl⟩) (by assumption) ?_
        try simp only [Act.put, List.getElem_toArray, List.getElem_cons_zero, List.getElem_cons_succ, List.setIfInBounds_toArray, List.set_cons_zero, List.set_cons_succ]
        refine wpAnyH_take (i := 7) (v := undef) rfl (by kernel_rfl) (by kernel_rfl) (by kernel_rfl) (fun _ _ _ h => h) (Or.inr ⟨by kernel_rfl, rfl⟩) (by assumption) ?_
        try simp only [Act.put, List.getElem_toArray, List.getElem_cons_zero, List.getElem_cons_succ, List.setIfInBounds_toArray, List.set_cons_zero, List.set_cons_succ]
        refine wpAnyH_take (i := 8) (v := undef) rfl (by kernel_rfl) (by kernel_rfl) (by kernel_rfl) (fun _ _ _ h => h) (Or.inr ⟨by kernel_rfl, rfl⟩) (by assumption) ?_
        try simp only [Act.put, List.getElem_toArray, List.getElem_cons_zero, List.getElem_cons_succ, List.setIfInBounds_toArray, List.set_cons_zero, List.set_cons_succ]
        refine wpAnyH_take (i := 9) (v := undef) rfl (by kernel_rfl) (by kernel_rfl) (by kernel_rfl) (fun _ _ _ h => h) (Or.inr ⟨by kernel_rfl, rfl⟩) (by assumption) ?_
        try simp only [Act.put, List.getElem_toArray, List.getElem_cons_zero, List.getElem_cons_succ, List.setIfInBounds_toArray, List.set_cons_zero, List.set_cons_succ]
        refine wpAnyH_take (i := 10) (v := undef) rfl (by kernel_rfl) (by kernel_rfl) (by kernel_rfl) (fun _ _ _ h => h) (Or.inr ⟨by kernel_rfl, rfl⟩) (by assumption) ?_
        try simp only [Act.put, List.getElem_toArray, List.getElem_cons_zero, List.getElem_cons_succ, List.setIfInBounds_toArray, List.set_cons_zero, List.set_cons_succ]
        refine wpAnyH_take (i := 11) (v := undef) rfl (by kernel_rfl) (by kernel_rfl) (by kernel_rfl) (fun _ _ _ h => h) (Or.inr ⟨by kernel_rfl, rfl⟩) (by assumption) ?_
        try simp only [Act.put, List.getElem_toArray, List.getElem_cons_zero, List.getElem_cons_succ, List.setIfInBounds_toArray, List.set_cons_zero, List.set_cons_succ]
        refine wpAnyH_take (i := 12) (v := undef) rfl (by kernel_rfl) (by kernel_rfl) (by kernel_rfl) (fun _ _ _ h => h) (Or.inr ⟨by kernel_rfl, rfl⟩) (by assumption) ?_
        try simp only [Act.put, List.getElem_toArray, List.getElem_cons_zero, List.getElem_cons_succ, List.setIfInBounds_toArray, List.set_cons_zero, List.set_cons_succ]
        refine wpAnyH_take (i := 13) (v := undef) rfl (by kernel_rfl) (by kernel_rfl) (by kernel_rfl) (fun _ _ _ h => h) (Or.inr ⟨by kernel_rfl, rfl⟩) (by assumption) ?_
        try simp only [Act.put, List.getElem_toArray, List.getElem_cons_zero, List.getElem_cons_succ, List.setIfInBounds_toArray, List.set_cons_zero, List.set_cons_succ]
        refine wpAnyH_take (i := 14) (v := undef) rfl (by kernel_rfl) (by kernel_rfl) (by kernel_rfl) (fun _ _ _ h => h) (Or.inr ⟨by kernel_rfl, rfl⟩) (by assumption) ?_
        try simp only [Act.put, List.getElem_toArray, List.getElem_cons_zero, List.getElem_cons_succ, List.setIfInBounds_toArray, List.set_cons_zero, List.set_cons_succ]
        refine wpAnyH_take (i := 15) (v := undef) rfl (by kernel_rfl) (by kernel_rfl) (by kernel_rfl) (fun _ _ _ h => h) (Or.inr ⟨by kernel_rfl, rfl⟩) (by assumption) ?_
        try simp only [Act.put, List.getElem_toArray, List.getElem_cons_zero, List.getElem_cons_succ, List.setIfInBounds_toArray, List.set_cons_zero, List.set_cons_succ]
        refine wpAnyH_take (i := 16) (v := ?_) rfl (by kernel_rfl) (by kernel_rfl) (by kernel_rfl) (fun _ _ _ h => h) (Or.inl ⟨by kernel_rfl, ?hy16⟩) (by assumption) ?_
        case hy16 => (intro w hSw; (try dsimp only at hSw); obtain ⟨t00, t01, t02, t03⟩ := (HX.out.on hSw).all; go_simp; try with_reducible rfl)
        try simp only [Act.put, List.getElem_toArray, List.getElem_cons_zero, List.getElem_cons_succ, List.setIfInBounds_toArray, List.set_cons_zero, List.set_cons_succ]
        refine wpAnyH_done (by kernel_rfl) ?_ _
        go_wp2
        go_ret
        rw [HN.out]
        exact ⟨rfl, Below.on HB2.out hHeld⟩
      · rw [hd] at CC
        have HK2 : Hid (∀ k x, k < j + 1 → l[k]? = some x → Ck x) := fun k x hk hx => by
          rcases Nat.lt_or_ge k j with h | h
          · exact HK.out k x h hx
          · obtain rfl : k = j := by omega
            rw [HR.out] at hx
            cases hx
            exact dck_iff.1 hd
        by_cases h0 : j = 0
        · subst h0
          refine wp_region_held_drew (S := fun x => Below u.heap.size u x) (by kernel_rfl) (Below.refl _ _).drew (fun hHeld => ?_)
          have hHeld : Below u.heap.size u u.drew := hHeld
          refine wpAnyH_take (i := 0) (v := ?_) rfl (by kernel_rfl) (by kernel_rfl) (by kernel_rfl) (fun _ _ _ h => h) (Or.inl ⟨by kernel_rfl, ?hy0⟩) (by assumption) ?_
          case hy0 => (intro w hSw; (try dsimp only at hSw); obtain ⟨t00, t01, t02, t03⟩ := (HX.out.on hSw).all; go_simp; try with_reducible rfl)
          try simp only [Act.put, List.getElem_toArray, List.getElem_cons_zero, List.setIfInBounds_toArray, List.set_cons_zero, List.set_cons_succ]
          refine wpAnyH_ready (rs := [1]) (by kernel_rfl) (by simp) ?_
          refine AllReadyH.cons rfl (fun K hK => ?_) AllReadyH.nil
          go_simp
          go_wp2_with fail
          refine (CC.out _).mono ?_
          rintro e u201 ⟨rfl, hb⟩
          replace hHeld := Below.on hHeld hb
          refine hK.out _ _ hHeld (fun _ => ?_)
          clear hK K hb
          refine wpAnyH_take (i := 2) (v := ?_) rfl (by kernel_rfl) (by kernel_rfl) (by kernel_rfl) (fun _ _ _ h => h) (Or.inl ⟨by kernel_rfl, ?hy2⟩) (by assumption) ?_
          case hy2 => (intro w hSw; (try dsimp only at hSw); obtain ⟨t00, t01, t02, t03⟩ := (HX.out.on hSw).all; go_simp; try with_reducible rfl)
          try simp only [Act.put, List.getElem_toArray, List.getElem_cons_zero, List.getElem_cons_succ, List.setIfInBounds_toArray, List.set_cons_zero, List.set_cons_succ]
          refine wpAnyH_take (i := 3) (v := ?_) rfl (by kernel_rfl) (by kernel_rfl) (by kernel_rfl) (fun _ _ _ h => h) (Or.inl ⟨by kernel_rfl, ?hy3⟩) (by assumption) ?_
          case hy3 => (intro w hSw; (try dsimp only at hSw); obtain ⟨t00, t01, t02, t03⟩ := (HX.out.on hSw).all; go_simp; try with_reducible rfl)
          try simp only [Act.put, List.getElem_toArray, List.getElem_cons_zero, List.getElem_cons_succ, List.setIfInBounds_toArray, List.set_cons_zero, List.set_cons_succ]
          refine wpAnyH_take (i := 4) (v := ?_) rfl (by kernel_rfl) (by kernel_rfl) (by kernel_rfl) (fun _ _ _ h => h) (Or.inl ⟨by kernel_rfl, ?hy4⟩) (by assumption) ?_
          case hy4 => (intro w hSw; (try dsimp only at hSw); obtain ⟨t00, t01, t02, t03⟩ := (HX.out.on hSw).all; go_simp; try with_reducible rfl)
          try simp only [Act.put, List.getElem_toArray, List.getElem_cons_zero, List.getElem_cons_succ, List.setIfInBounds_toArray, List.set_cons_zero, List.set_cons_succ]
          refine wpAnyH_take (i := 5) (v := ?_) rfl (by kernel_rfl) (by kernel_rfl) (by kernel_rfl) (fun _ _ _ h => h) (Or.inl ⟨by kernel_rfl, ?hy5⟩) (by assumption) ?_
          case hy5 => (intro w hSw; (try dsimp only at hSw); obtain ⟨t00, t01, t02, t03⟩ := (HX.out.on hSw).all; go_simp; try with_reducible rfl)
          try simp only [Act.put, List.getElem_toArray, List.getElem_cons_zero, List.getElem_cons_succ, List.setIfInBounds_toArray, List.set_cons_zero, List.set_cons_succ]
          refine wpAnyH_take (i := 6) (v := ?_) rfl (by kernel_rfl) (by kernel_rfl) (by kernel_rfl) (fun _ _ _ h => h) (Or.inl ⟨by kernel_rfl, ?hy6⟩) (by assumption) ?_
          case hy6 => (intro w hSw; (try dsimp only at hSw); obtain ⟨t00, t01, t02, t03⟩ := (HX.out.on hSw).all; go_simp; try with_reducible rfl)
          try simp only [Act.put, List.getElem_toArray, List.getElem_cons_zero, List.getElem_cons_succ, List.setIfInBounds_toArray, List.set_cons_zero, List.set_cons_succ]
          refine wpAnyH_take (i := 7) (v := undef) rfl (by kernel_rfl) (by kernel_rfl) (by kernel_rfl) (fun _ _ _ h => h) (Or.inr ⟨by kernel_rfl, rfl⟩) (by assumption) ?_
          try simp only [Act.put, List.getElem_toArray, List.getElem_cons_zero, List.getElem_cons_succ, List.setIfInBounds_toArray, List.set_cons_zero, List.set_cons_succ]
          refine wpAnyH_take (i := 8) (v := undef) rfl (by kernel_rfl) (by kernel_rfl) (by kernel_rfl) (fun _ _ _ h => h) (Or.inr ⟨by kernel_rfl, rfl⟩) (by assumption) ?_
          try simp only [Act.put, List.getElem_toArray, List.getElem_cons_zero, List.getElem_cons_succ, List.setIfInBounds_toArray, List.set_cons_zero, List.set_cons_succ]
          refine wpAnyH_take (i := 9) (v := undef) rfl (by kernel_rfl) (by kernel_rfl) (by kernel_rfl) (fun _ _ _ h => h) (Or.inr ⟨by kernel_rfl, rfl⟩) (by assumption) ?_
          try simp only [Act.put, List.getElem_toArray, List.getElem_cons_zero, List.getElem_cons_succ, List.setIfInBounds_toArray, List.set_cons_zero, List.set_cons_succ]
          refine wpAnyH_take (i := 10) (v := undef) rfl (by kernel_rfl) (by kernel_rfl) (by kernel_rfl) (fun _ _ _ h => h) (Or.inr ⟨by kernel_rfl, rfl⟩) (by assumption) ?_
          try simp only [Act.put, List.getElem_toArray, List.getElem_cons_zero, List.getElem_cons_succ, List.setIfInBounds_toArray, List.set_cons_zero, List.set_cons_succ]
          refine wpAnyH_take (i := 11) (v := undef) rfl (by kernel_rfl) (by kernel_rfl) (by kernel_rfl) (fun _ _ _ h => h) (Or.inr ⟨by kernel_rfl, rfl⟩) (by assumption) ?_
          try simp only [Act.put, List.getElem_toArray, List.getElem_cons_zero, List.getElem_cons_succ, List.setIfInBounds_toArray, List.set_cons_zero, List.set_cons_succ]
          refine wpAnyH_take (i := 12) (v := undef) rfl (by kernel_rfl) (by kernel_rfl) (by kernel_rfl) (fun _ _ _ h => h) (Or.inr ⟨by kernel_rfl, rfl⟩) (by assumption) ?_
          try simp only [Act.put, List.getElem_toArray, List.getElem_cons_zero, List.getElem_cons_succ, List.setIfInBounds_toArray, List.set_cons_zero, List.set_cons_succ]
          refine wpAnyH_take (i := 13) (v := undef) rfl (by kernel_rfl) (by kernel_rfl) (by kernel_rfl) (fun _ _ _ h => h) (Or.inr ⟨by kernel_rfl, rfl⟩) (by assumption) ?_
          try simp only [Act.put, List.getElem_toArray, List.getElem_cons_zero, List.getElem_cons_succ, List.setIfInBounds_toArray, List.set_cons_zero, List.set_cons_succ]
          refine wpAnyH_take (i := 14) (v := undef) rfl (by kernel_rfl) (by kernel_rfl) (by kernel_rfl) (fun _ _ _ h => h) (Or.inr ⟨by kernel_rfl, rfl⟩) (by assumption) ?_
          try simp only [Act.put, List.getElem_toArray, List.getElem_cons_zero, List.getElem_cons_succ, List.setIfInBounds_toArray, List.set_cons_zero, List.set_cons_succ]
          refine wpAnyH_take (i := 15) (v := ?_) rfl (by kernel_rfl) (by kernel_rfl) (by kernel_rfl) (fun _ _ _ h => h) (Or.inl ⟨by kernel_rfl, ?hy15⟩) (by assumption) ?_
          case hy15 => (intro w hSw; (try dsimp only at hSw); obtain ⟨t00, t01, t02, t03⟩ := (HX.out.on hSw).all; go_simp; try with_reducible rfl)
          try simp only [Act.put, List.getElem_toArray, List.getElem_cons_zero, List.getElem_cons_succ, List.setIfInBounds_toArray, List.set_cons_zero, List.set_cons_succ]
          refine wpAnyH_take (i := 16) (v := ?_) rfl (by kernel_rfl) (by kernel_rfl) (by kernel_rfl) (fun _ _ _ h => h) (Or.inl ⟨by kernel_rfl, ?hy16⟩) (by assumption) ?_
          case hy16 => (intro w hSw; (try dsimp only at hSw); obtain ⟨t00, t01, t02, t03⟩ := (HX.out.on hSw).all; go_simp; try with_reducible rfl)
          try simp only [Act.put, List.getElem_toArray, List.getElem_cons_zero, List.getElem_cons_succ, List.setIfInBounds_toArray, List.set_cons_zero, List.set_cons_succ]
          refine wpAnyH_done (by kernel_rfl) ?_ _
          go_wp2
          go_roundw
          case rel => exact ⟨1, by go_num, by omega, HK2.out, fun k x y hk => absurd hk (by omega), Below.on HB2.out hHeld⟩
          case measure => simp [numOf]; omega
        · obtain ⟨m, rfl⟩ : ∃ m, j = m + 1 := ⟨j - 1, by omega⟩
          obtain ⟨b', off', p, hbo, _, hp, _, hep⟩ := (H.out.on HB2.out).el (show m < n by omega)
          simp only [Option.some.injEq, Addr.mk.injEq, and_true] at hbo
          obtain ⟨rfl, rfl⟩ := hbo
          have HEP := hid hep
          have kp := HK.out m p (by omega) hp
          have CF := hid (fun w => follows_any p r (by obtain ⟨k1, k2, k3, k4, k5, k6⟩ := kp; omega) (by obtain ⟨k1, k2, k3, k4, k5, k6⟩ := kp; omega) w)
          have HP := hid hp
          have hm1 : IntKind.i64.wrap (m : Int) = (m : Int) := by rw [IntKind.wrap_i64]; omega
          have hm3 : ((m : Int)).toNat = m := by omega
          have hm0 : (0 : Int) ≤ m := by omega
          have hm2 : (m : Int) < n := by omega
          clear hp hep kp
          cases hf : flw p r
          · rw [hf] at CF
            have HN := hid (rgn_chn (chn_no HP.out HR.out hf))
            refine wp_region_held_drew (S := fun x => Below u.heap.size u x) (by kernel_rfl) (Below.refl _ _).drew (fun hHeld => ?_)
            have hHeld : Below u.heap.size u u.drew := hHeld
            refine wpAnyH_take (i := 0) (v := ?_) rfl (by kernel_rfl) (by kernel_rfl) (by kernel_rfl) (fun _ _ _ h => h) (Or.inl ⟨by kernel_rfl, ?hy0⟩) (by assumption) ?_
            case hy0 => (intro w hSw; (try dsimp only at hSw); obtain ⟨t00, t01, t02, t03⟩ := (HX.out.on hSw).all; obtain ⟨t10, t11, t12, t13⟩ := (HEP.out.on hSw).all; go_simp; try with_reducible rfl)
            try simp only [Act.put, List.getElem_toArray, List.getElem_cons_zero, List.setIfInBounds_toArray, List.set_cons_zero, List.set_cons_succ]
            refine wpAnyH_ready (rs := [1]) (by kernel_rfl) (by simp) ?_
            refine AllReadyH.cons rfl (fun K hK => ?_) AllReadyH.nil
            go_simp
            go_wp2_with fail
            refine (CC.out _).mono ?_
            rintro e u201 ⟨rfl, hb⟩
            replace hHeld := Below.on hHeld hb
            refine hK.out _ _ hHeld (fun _ => ?_)
            clear hK K hb
            refine wpAnyH_take (i := 2) (v := ?_) rfl (by kernel_rfl) (by kernel_rfl) (by kernel_rfl) (fun _ _ _ h => h) (Or.inl ⟨by kernel_rfl, ?hy2⟩) (by assumption) ?_
            case hy2 => (intro w hSw; (try dsimp only at hSw); obtain ⟨t00, t01, t02, t03⟩ := (HX.out.on hSw).all; obtain ⟨t10, t11, t12, t13⟩ := (HEP.out.on hSw).all; go_simp; try with_reducible rfl)
            try simp only [Act.put, List.getElem_toArray, List.getElem_cons_zero, List.getElem_cons_succ, List.setIfInBounds_toArray, List.set_cons_zero, List.set_cons_succ]
            refine wpAnyH_take (i := 3) (v := ?_) rfl (by kernel_rfl) (by kernel_rfl) (by kernel_rfl) (fun _ _ _ h => h) (Or.inl ⟨by kernel_rfl, ?hy3⟩) (by assumption) ?_
            case hy3 => (intro w hSw; (try dsimp only at hSw); obtain ⟨t00, t01, t02, t03⟩ := (HX.out.on hSw).all; obtain ⟨t10, t11, t12, t13⟩ := (HEP.out.on hSw).all; go_simp; try with_reducible rfl)
            try simp only [Act.put, List.getElem_toArray, List.getElem_cons_zero, List.getElem_cons_succ, List.setIfInBounds_toArray, List.set_cons_zero, List.set_cons_succ]
            refine wpAnyH_take (i := 4) (v := ?_) rfl (by kernel_rfl) (by kernel_rfl) (by kernel_rfl) (fun _ _ _ h => h) (Or.inl ⟨by kernel_rfl, ?hy4⟩) (by assumption) ?_
            case hy4 => (intro w hSw; (try dsimp only at hSw); obtain ⟨t00, t01, t02, t03⟩ := (HX.out.on hSw).all; obtain ⟨t10, t11, t12, t13⟩ := (HEP.out.on hSw).all; go_simp; try with_reducible rfl)
            try simp only [Act.put, List.getElem_toArray, List.getElem_cons_zero, List.getElem_cons_succ, List.setIfInBounds_toArray, List.set_cons_zero, List.set_cons_succ]
            refine wpAnyH_take (i := 5) (v := ?_) rfl (by kernel_rfl) (by kernel_rfl) (by kernel_rfl) (fun _ _ _ h => h) (Or.inl ⟨by kernel_rfl, ?hy5⟩) (by assumption) ?_
            case hy5 => (intro w hSw; (try dsimp only at hSw); obtain ⟨t00, t01, t02, t03⟩ := (HX.out.on hSw).all; obtain ⟨t10, t11, t12, t13⟩ := (HEP.out.on hSw).all; go_simp; try with_reducible rfl)
            try simp only [Act.put, List.getElem_toArray, List.getElem_cons_zero, List.getElem_cons_succ, List.setIfInBounds_toArray, List.set_cons_zero, List.set_cons_succ]
            refine wpAnyH_take (i := 6) (v := ?_) rfl (by kernel_rfl) (by kernel_rfl) (by kernel_rfl) (fun _ _ _ h => h) (Or.inl ⟨by kernel_rfl, ?hy6⟩) (by assumption) ?_
            case hy6 => (intro w hSw; (try dsimp only at hSw); obtain ⟨t00, t01, t02, t03⟩ := (HX.out.on hSw).all; obtain ⟨t10, t11, t12, t13⟩ := (HEP.out.on hSw).all; go_simp; try with_reducible rfl)
            try simp only [Act.put, List.getElem_toArray, List.getElem_cons_zero, List.getElem_cons_succ, List.setIfInBounds_toArray, List.set_cons_zero, List.set_cons_succ]
            refine wpAnyH_take (i := 7) (v := ?_) rfl (by kernel_rfl) (by kernel_rfl) (by kernel_rfl) (fun _ _ _ h => h) (Or.inl ⟨by kernel_rfl, ?hy7⟩) (by assumption) ?_
            case hy7 => (intro w hSw; (try dsimp only at hSw); obtain ⟨t00, t01, t02, t03⟩ := (HX.out.on hSw).all; obtain ⟨t10, t11, t12, t13⟩ := (HEP.out.on hSw).all; go_simp; try with_reducible rfl)
            try simp only [Act.put, List.getElem_toArray, List.getElem_cons_zero, List.getElem_cons_succ, List.setIfInBounds_toArray, List.set_cons_zero, List.set_cons_succ]
            refine wpAnyH_take (i := 8) (v := ?_) rfl (by kernel_rfl) (by kernel_rfl) (by kernel_rfl) (fun _ _ _ h => h) (Or.inl ⟨by kernel_rfl, ?hy8⟩) (by assumption) ?_
            case hy8 => (intro w hSw; (try dsimp only at hSw); obtain ⟨t00, t01, t02, t03⟩ := (HX.out.on hSw).all; obtain ⟨t10, t11, t12, t13⟩ := (HEP.out.on hSw).all; go_simp; try with_reducible rfl)
            try simp only [Act.put, List.getElem_toArray, List.getElem_cons_zero, List.getElem_cons_succ, List.setIfInBounds_toArray, List.set_cons_zero, List.set_cons_succ]
            refine wpAnyH_take (i := 9) (v := ?_) rfl (by kernel_rfl) (by kernel_rfl) (by kernel_rfl) (fun _ _ _ h => h) (Or.inl ⟨by kernel_rfl, ?hy9⟩) (by assumption) ?_
            case hy9 => (intro w hSw; (try dsimp only at hSw); obtain ⟨t00, t01, t02, t03⟩ := (HX.out.on hSw).all; obtain ⟨t10, t11, t12, t13⟩ := (HEP.out.on hSw).all; go_simp; try with_reducible rfl)
            try simp only [Act.put, List.getElem_toArray, List.getElem_cons_zero, List.getElem_cons_succ, List.setIfInBounds_toArray, List.set_cons_zero, List.set_cons_succ]
            refine wpAnyH_take (i := 10) (v := ?_) rfl (by kernel_rfl) (by kernel_rfl) (by kernel_rfl) (fun _ _ _ h => h) (Or.inl ⟨by kernel_rfl, ?hy10⟩) (by assumption) ?_
            case hy10 => (intro w hSw; (try dsimp only at hSw); obtain ⟨t00, t01, t02, t03⟩ := (HX.out.on hSw).all; obtain ⟨t10, t11, t12, t13⟩ := (HEP.out.on hSw).all; go_simp; try with_reducible rfl)
            try simp only [Act.put, List.getElem_toArray, List.getElem_cons_zero, List.getElem_cons_succ, List.setIfInBounds_toArray, List.set_cons_zero, List.set_cons_succ]
            refine wpAnyH_take (i := 11) (v := ?_) rfl (by kernel_rfl) (by kernel_rfl) (by kernel_rfl) (fun _ _ _ h => h) (Or.inl ⟨by kernel_rfl, ?hy11⟩) (by assumption) ?_
            case hy11 => (intro w hSw; (try dsimp only at hSw); obtain ⟨t00, t01, t02, t03⟩ := (HX.out.on hSw).all; obtain ⟨t10, t11, t12, t13⟩ := (HEP.out.on hSw).all; go_simp; try with_reducible rfl)
            try simp only [Act.put, List.getElem_toArray, List.getElem_cons_zero, List.getElem_cons_succ, List.setIfInBounds_toArray, List.set_cons_zero, List.set_cons_succ]
            refine wpAnyH_take (i := 12) (v := ?_) rfl (by kernel_rfl) (by kernel_rfl) (by kernel_rfl) (fun _ _ _ h => h) (Or.inl ⟨by kernel_rfl, ?hy12⟩) (by assumption) ?_
            case hy12 => (intro w hSw; (try dsimp only at hSw); obtain ⟨t00, t01, t02, t03⟩ := (HX.out.on hSw).all; obtain ⟨t10, t11, t12, t13⟩ := (HEP.out.on hSw).all; go_simp; try with_reducible rfl)
            try simp only [Act.put, List.getElem_toArray, List.getElem_cons_zero, List.getElem_cons_succ, List.setIfInBounds_toArray, List.set_cons_zero, List.set_cons_succ]
            refine wpAnyH_ready (rs := [13]) (by kernel_rfl) (by simp) ?_
            refine AllReadyH.cons rfl (fun K hK => ?_) AllReadyH.nil
            go_simp
            go_wp2_with fail
            refine (CF.out _).mono ?_
            rintro e u213 ⟨rfl, hb⟩
            replace hHeld := Below.on hHeld hb
            refine hK.out _ _ hHeld (fun _ => ?_)
            clear hK K hb
            refine wpAnyH_take (i := 14) (v := ?_) rfl (by kernel_rfl) (by kernel_rfl) (by kernel_rfl) (fun _ _ _ h => h) (Or.inl ⟨by kernel_rfl, ?hy14⟩) (by assumption) ?_
            case hy14 => (intro w hSw; (try dsimp only at hSw); obtain ⟨t00, t01, t02, t03⟩ := (HX.out.on hSw).all; obtain ⟨t10, t11, t12, t13⟩ := (HEP.out.on hSw).all; go_simp; try with_reducible rfl)
            try simp only [Act.put, List.getElem_toArray, List.getElem_cons_zero, List.getElem_cons_succ, List.setIfInBounds_toArray, List.set_cons_zero, List.set_cons_succ]
            refine wpAnyH_take (i := 15) (v := ?_) rfl (by kernel_rfl) (by kernel_rfl) (by kernel_rfl) (fun _ _ _ h => h) (Or.inl ⟨by kernel_rfl, ?hy15⟩) (by assumption) ?_
            case hy15 => (intro w hSw; (try dsimp only at hSw); obtain ⟨t00, t01, t02, t03⟩ := (HX.out.on hSw).all; obtain ⟨t10, t11, t12, t13⟩ := (HEP.out.on hSw).all; go_simp; try with_reducible rfl)
            try simp only [Act.put, List.getElem_toArray, List.getElem_cons_zero, List.getElem_cons_succ, List.setIfInBounds_toArray, List.set_cons_zero, List.set_cons_succ]
            refine wpAnyH_take (i := 16) (v := ?_) rfl (by kernel_rfl) (by kernel_rfl) (by kernel_rfl) (fun _ _ _ h => h) (Or.inl ⟨by kernel_rfl, ?hy16⟩) (by assumption) ?_
            case hy16 => (intro w hSw; (try dsimp only at hSw); obtain ⟨t00, t01, t02, t03⟩ := (HX.out.on hSw).all; obtain ⟨t10, t11, t12, t13⟩ := (HEP.out.on hSw).all; go_simp; try with_reducible rfl)
            try simp only [Act.put, List.getElem_toArray, List.getElem_cons_zero, List.getElem_cons_succ, List.setIfInBounds_toArray, List.set_cons_zero, List.set_cons_succ]
            refine wpAnyH_done (by kernel_rfl) ?_ _
            go_wp2
            go_ret
            rw [HN.out]
            exact ⟨rfl, Below.on HB2.out hHeld⟩
          · rw [hf] at CF
            refine wp_region_held_drew (S := fun x => Below u.heap.size u x) (by kernel_rfl) (Below.refl _ _).drew (fun hHeld => ?_)
            have hHeld : Below u.heap.size u u.drew := hHeld
            refine wpAnyH_take (i := 0) (v := ?_) rfl (by kernel_rfl) (by kernel_rfl) (by kernel_rfl) (fun _ _ _ h => h) (Or.inl ⟨by kernel_rfl, ?hy0⟩) (by assumption) ?_
            case hy0 => (intro w hSw; (try dsimp only at hSw); obtain ⟨t00, t01, t02, t03⟩ := (HX.out.on hSw).all; obtain ⟨t10, t11, t12, t13⟩ := (HEP.out.on hSw).all; go_simp; try with_reducible rfl)
            try simp only [Act.put, List.getElem_toArray, List.getElem_cons_zero, List.setIfInBounds_toArray, List.set_cons_zero, List.set_cons_succ]
            refine wpAnyH_ready (rs := [1]) (by kernel_rfl) (by simp) ?_
            refine AllReadyH.cons rfl (fun K hK => ?_) AllReadyH.nil
            go_simp
            go_wp2_with fail
            refine (CC.out _).mono ?_
            rintro e u201 ⟨rfl, hb⟩
            replace hHeld := Below.on hHeld hb
            refine hK.out _ _ hHeld (fun _ => ?_)
            clear hK K hb
            refine wpAnyH_take (i := 2) (v := ?_) rfl (by kernel_rfl) (by kernel_rfl) (by kernel_rfl) (fun _ _ _ h => h) (Or.inl ⟨by kernel_rfl, ?hy2⟩) (by assumption) ?_
            case hy2 => (intro w hSw; (try dsimp only at hSw); obtain ⟨t00, t01, t02, t03⟩ := (HX.out.on hSw).all; obtain ⟨t10, t11, t12, t13⟩ := (HEP.out.on hSw).all; go_simp; try with_reducible rfl)
            try simp only [Act.put, List.getElem_toArray, List.getElem_cons_zero, List.getElem_cons_succ, List.setIfInBounds_toArray, List.set_cons_zero, List.set_cons_succ]
            refine wpAnyH_take (i := 3) (v := ?_) rfl (by kernel_rfl) (by kernel_rfl) (by kernel_rfl) (fun _ _ _ h => h) (Or.inl ⟨by kernel_rfl, ?hy3⟩) (by assumption) ?_
            case hy3 => (intro w hSw; (try dsimp only at hSw); obtain ⟨t00, t01, t02, t03⟩ := (HX.out.on hSw).all; obtain ⟨t10, t11, t12, t13⟩ := (HEP.out.on hSw).all; go_simp; try with_reducible rfl)
            try simp only [Act.put, List.getElem_toArray, List.getElem_cons_zero, List.getElem_cons_succ, List.setIfInBounds_toArray, List.set_cons_zero, List.set_cons_succ]
            refine wpAnyH_take (i := 4) (v := ?_) rfl (by kernel_rfl) (by kernel_rfl) (by kernel_rfl) (fun _ _ _ h => h) (Or.inl ⟨by kernel_rfl, ?hy4⟩) (by assumption) ?_
            case hy4 => (intro w hSw; (try dsimp only at hSw); obtain ⟨t00, t01, t02, t03⟩ := (HX.out.on hSw).all; obtain ⟨t10, t11, t12, t13⟩ := (HEP.out.on hSw).all; go_simp; try with_reducible rfl)
            try simp only [Act.put, List.getElem_toArray, List.getElem_cons_zero, List.getElem_cons_succ, List.setIfInBounds_toArray, List.set_cons_zero, List.set_cons_succ]
            refine wpAnyH_take (i := 5) (v := ?_) rfl (by kernel_rfl) (by kernel_rfl) (by kernel_rfl) (fun _ _ _ h => h) (Or.inl ⟨by kernel_rfl, ?hy5⟩) (by assumption) ?_
            case hy5 => (intro w hSw; (try dsimp only at hSw); obtain ⟨t00, t01, t02, t03⟩ := (HX.out.on hSw).all; obtain ⟨t10, t11, t12, t13⟩ := (HEP.out.on hSw).all; go_simp; try with_reducible rfl)
            try simp only [Act.put, List.getElem_toArray, List.getElem_cons_zero, List.getElem_cons_succ, List.setIfInBounds_toArray, List.set_cons_zero, List.set_cons_succ]
            refine wpAnyH_take (i := 6) (v := ?_) rfl (by kernel_rfl) (by kernel_rfl) (by kernel_rfl) (fun _ _ _ h => h) (Or.inl ⟨by kernel_rfl, ?hy6⟩) (by assumption) ?_
            case hy6 => (intro w hSw; (try dsimp only at hSw); obtain ⟨t00, t01, t02, t03⟩ := (HX.out.on hSw).all; obtain ⟨t10, t11, t12, t13⟩ := (HEP.out.on hSw).all; go_simp; try with_reducible rfl)
            try simp only [Act.put, List.getElem_toArray, List.getElem_cons_zero, List.getElem_cons_succ, List.setIfInBounds_toArray, List.set_cons_zero, List.set_cons_succ]
            refine wpAnyH_take (i := 7) (v := ?_) rfl (by kernel_rfl) (by kernel_rfl) (by kernel_rfl) (fun _ _ _ h => h) (Or.inl ⟨by kernel_rfl, ?hy7⟩) (by assumption) ?_
            case hy7 => (intro w hSw; (try dsimp only at hSw); obtain ⟨t00, t01, t02, t03⟩ := (HX.out.on hSw).all; obtain ⟨t10, t11, t12, t13⟩ := (HEP.out.on hSw).all; go_simp; try with_reducible rfl)
            try simp only [Act.put, List.getElem_toArray, List.getElem_cons_zero, List.getElem_cons_succ, List.setIfInBounds_toArray, List.set_cons_zero, List.set_cons_succ]
            refine wpAnyH_take (i := 8) (v := ?_) rfl (by kernel_rfl) (by kernel_rfl) (by kernel_rfl) (fun _ _ _ h => h) (Or.inl ⟨by kernel_rfl, ?hy8⟩) (by assumption) ?_
            case hy8 => (intro w hSw; (try dsimp only at hSw); obtain ⟨t00, t01, t02, t03⟩ := (HX.out.on hSw).all; obtain ⟨t10, t11, t12, t13⟩ := (HEP.out.on hSw).all; go_simp; try with_reducible rfl)
            try simp only [Act.put, List.getElem_toArray, List.getElem_cons_zero, List.getElem_cons_succ, List.setIfInBounds_toArray, List.set_cons_zero, List.set_cons_succ]
            refine wpAnyH_take (i := 9) (v := ?_) rfl (by kernel_rfl) (by kernel_rfl) (by kernel_rfl) (fun _ _ _ h => h) (Or.inl ⟨by kernel_rfl, ?hy9⟩) (by assumption) ?_
            case hy9 => (intro w hSw; (try dsimp only at hSw); obtain ⟨t00, t01, t02, t03⟩ := (HX.out.on hSw).all; obtain ⟨t10, t11, t12, t13⟩ := (HEP.out.on hSw).all; go_simp; try with_reducible rfl)
            try simp only [Act.put, List.getElem_toArray, List.getElem_cons_zero, List.getElem_cons_succ, List.setIfInBounds_toArray, List.set_cons_zero, List.set_cons_succ]
            refine wpAnyH_take (i := 10) (v := ?_) rfl (by kernel_rfl) (by kernel_rfl) (by kernel_rfl) (fun _ _ _ h => h) (Or.inl ⟨by kernel_rfl, ?hy10⟩) (by assumption) ?_
            case hy10 => (intro w hSw; (try dsimp only at hSw); obtain ⟨t00, t01, t02, t03⟩ := (HX.out.on hSw).all; obtain ⟨t10, t11, t12, t13⟩ := (HEP.out.on hSw).all; go_simp; try with_reducible rfl)
            try simp only [Act.put, List.getElem_toArray, List.getElem_cons_zero, List.getElem_cons_succ, List.setIfInBounds_toArray, List.set_cons_zero, List.set_cons_succ]
            refine wpAnyH_take (i := 11) (v := ?_) rfl (by kernel_rfl) (by kernel_rfl) (by kernel_rfl) (fun _ _ _ h => h) (Or.inl ⟨by kernel_rfl, ?hy11⟩) (by assumption) ?_
            case hy11 => (intro w hSw; (try dsimp only at hSw); obtain ⟨t00, t01, t02, t03⟩ := (HX.out.on hSw).all; obtain ⟨t10, t11, t12, t13⟩ := (HEP.out.on hSw).all; go_simp; try with_reducible rfl)
            try simp only [Act.put, List.getElem_toArray, List.getElem_cons_zero, List.getElem_cons_succ, List.setIfInBounds_toArray, List.set_cons_zero, List.set_cons_succ]
            refine wpAnyH_take (i := 12) (v := ?_) rfl (by kernel_rfl) (by kernel_rfl) (by kernel_rfl) (fun _ _ _ h => h) (Or.inl ⟨by kernel_rfl, ?hy12⟩) (by assumption) ?_
            case hy12 => (intro w hSw; (try dsimp only at hSw); obtain ⟨t00, t01, t02, t03⟩ := (HX.out.on hSw).all; obtain ⟨t10, t11, t12, t13⟩ := (HEP.out.on hSw).all; go_simp; try with_reducible rfl)
            try simp only [Act.put, List.getElem_toArray, List.getElem_cons_zero, List.getElem_cons_succ, List.setIfInBounds_toArray, List.set_cons_zero, List.set_cons_succ]
            refine wpAnyH_ready (rs := [13]) (by kernel_rfl) (by simp) ?_
            refine AllReadyH.cons rfl (fun K hK => ?_) AllReadyH.nil
            go_simp
            go_wp2_with fail
            refine (CF.out _).mono ?_
            rintro e u213 ⟨rfl, hb⟩
            replace hHeld := Below.on hHeld hb
            refine hK.out _ _ hHeld (fun _ => ?_)
            clear hK K hb
            refine wpAnyH_take (i := 14) (v := ?_) rfl (by kernel_rfl) (by kernel_rfl) (by kernel_rfl) (fun _ _ _ h => h) (Or.inl ⟨by kernel_rfl, ?hy14⟩) (by assumption) ?_
            case hy14 => (intro w hSw; (try dsimp only at hSw); obtain ⟨t00, t01, t02, t03⟩ := (HX.out.on hSw).all; obtain ⟨t10, t11, t12, t13⟩ := (HEP.out.on hSw).all; go_simp; try with_reducible rfl)
            try simp only [Act.put, List.getElem_toArray, List.getElem_cons_zero, List.getElem_cons_succ, List.setIfInBounds_toArray, List.set_cons_zero, List.set_cons_succ]
            refine wpAnyH_take (i := 15) (v := ?_) rfl (by kernel_rfl) (by kernel_rfl) (by kernel_rfl) (fun _ _ _ h => h) (Or.inl ⟨by kernel_rfl, ?hy15⟩) (by assumption) ?_
            case hy15 => (intro w hSw; (try dsimp only at hSw); obtain ⟨t00, t01, t02, t03⟩ := (HX.out.on hSw).all; obtain ⟨t10, t11, t12, t13⟩ := (HEP.out.on hSw).all; go_simp; try with_reducible rfl)
            try simp only [Act.put, List.getElem_toArray, List.getElem_cons_zero, List.getElem_cons_succ, List.setIfInBounds_toArray, List.set_cons_zero, List.set_cons_succ]
            refine wpAnyH_take (i := 16) (v := ?_) rfl (by kernel_rfl) (by kernel_rfl) (by kernel_rfl) (fun _ _ _ h => h) (Or.inl ⟨by kernel_rfl, ?hy16⟩) (by assumption) ?_
            case hy16 => (intro w hSw; (try dsimp only at hSw); obtain ⟨t00, t01, t02, t03⟩ := (HX.out.on hSw).all; obtain ⟨t10, t11, t12, t13⟩ := (HEP.out.on hSw).all; go_simp; try with_reducible rfl)
            try simp only [Act.put, List.getElem_toArray, List.getElem_cons_zero, List.getElem_cons_succ, List.setIfInBounds_toArray, List.set_cons_zero, List.set_cons_succ]
            refine wpAnyH_done (by kernel_rfl) ?_ _
            go_wp2
            go_roundw
            case rel => exact ⟨m + 1 + 1, by go_num, by omega, HK2.out, fun k x y hk hx hy => by
              rcases Nat.lt_or_ge (k + 1) (m + 1) with h | h
              · exact HF.out k x y h hx hy
              · obtain rfl : k = m := by omega
                rw [HP.out] at hx
                rw [HR.out] at hy
                cases hx
                cases hy
                exact hf, Below.on HB2.out hHeld⟩
            case measure => simp [numOf]; omega
    · have e1 : decide ((j : Int) < n) = false := decide_eq_false (by omega)
      obtain rfl : j = n := by omega
      have HC : Hid (chn l = true) := chn_all fun k x y hx hy => HF.out k x y (by rw [← HL.out]; exact (List.getElem?_eq_some_iff.1 hy).1) hx hy
      have HC2 : Hid (∀ x ∈ l, Ck x) := fun x hx => by
        obtain ⟨k, hk, e⟩ := List.mem_iff_getElem.1 hx
        exact HK.out k x (by rw [← HL.out]; exact hk) (by rw [List.getElem?_eq_getElem hk, e])
      have HR : Hid (rgn l = prt [] l) := by
        rw [Hid, rgn, HC.out, Bool.true_and, List.all_eq_true.2 fun x hx => dck_iff.2 (HC2.out x hx), Bool.true_and]
      have CP := hid (fun u h => parted_any a j c l u h HC2.out)
      go_wp2_with fail
      refine (CP.out _ (H.out.on HB.out)).mono ?_
      rintro e w2 ⟨rfl, hb2⟩
      go_wp2
      go_ret
      rw [HR.out]
      exact ⟨rfl, Below.on HB.out hb2⟩
end Go.Proofs.YtmiapccngeafkaaDoor

/- Slices of numbers; the contracts of the program's from, odd, least. -/
namespace Go.Proofs.YtmiapccngeafkaaDoor
open Go Go.RowKit

/-- A slice whose first n elements are the numbers l. -/
structure RdJ (w : World) (a : Option Addr) (n c : Nat) (l : List Int) : Prop where
  len : l.length = n
  le : n ≤ c
  max : c ≤ maxLen
  hnil : a = none → c = 0
  pl : 0 < n → ∃ b off, a = some ⟨b, off, none⟩ ∧ b < w.heap.size ∧ ∀ j z, l[j]? = some z → w.cell? ⟨b, off + j, none⟩ = some (.int .i64 z)

theorem RdJ.on {w u : World} {a : Option Addr} {n c : Nat} {l : List Int} (h : RdJ w a n c l) (hb : Below w.heap.size w u) : RdJ u a n c l :=
  ⟨h.len, h.le, h.max, h.hnil, fun hn => by
    obtain ⟨b, off, e, h1, h2⟩ := h.pl hn
    exact ⟨b, off, e, Nat.lt_of_lt_of_le h1 hb.size, fun j r hr => by rw [hb.cell h1]; exact h2 j r hr⟩⟩
theorem RdJ.drewN {w : World} {a : Option Addr} {n c : Nat} {l : List Int} (h : RdJ w a n c l) (q : Nat) : RdJ (w.drewN q) a n c l := h.on (below_drewN (Below.refl _ _) q)
theorem RdJ.nil (w : World) : RdJ w none 0 0 [] := ⟨rfl, Nat.le_refl _, Nat.zero_le _, fun _ => rfl, fun h => absurd h (by omega)⟩
theorem RdJ.small {w : World} {a : Option Addr} {n c : Nat} {l : List Int} (h : RdJ w a n c l) : n ≤ 9223372036854775807 ∧ c ≤ 9223372036854775807 := by
  have h1 := h.le
  have h2 := h.max
  simp only [maxLen] at h2
  omega
theorem RdJ.el {w : World} {a : Option Addr} {n c : Nat} {l : List Int} (h : RdJ w a n c l) {j : Nat} (hj : j < n) : ∃ b off z, a = some ⟨b, off, none⟩ ∧ b < w.heap.size ∧ l[j]? = some z ∧ w.cell? ⟨b, off + j, none⟩ = some (.int .i64 z) := by
  have hl := h.len
  obtain ⟨b, off, e, h1, h2⟩ := h.pl (by omega)
  have hr : l[j]? = some l[j] := List.getElem?_eq_getElem (by omega)
  exact ⟨b, off, _, e, h1, hr, h2 j _ hr⟩
theorem RdJ.drop {w : World} {b off n c : Nat} {l : List Int} (h : RdJ w (some ⟨b, off, none⟩) n c l) {k : Nat} (hk : k ≤ n) : RdJ w (some ⟨b, off + k, none⟩) (n - k) (c - k) (l.drop k) := by
  have hl := h.len
  have hle := h.le
  have hm := h.max
  refine ⟨by rw [List.length_drop]; omega, by omega, by omega, (fun h => by cases h), fun hk0 => ?_⟩
  obtain ⟨b', off', e, h1, h2⟩ := h.pl (by omega)
  cases e
  refine ⟨b, off + k, rfl, h1, fun j r hr => ?_⟩
  rw [List.getElem?_drop] at hr
  have := h2 _ _ hr
  rwa [Nat.add_assoc]
theorem RdJ.none_of {w : World} (a : Option Addr) (c : Nat) (hc : c ≤ maxLen) (hn : a = none → c = 0) : RdJ w a 0 c [] := ⟨rfl, Nat.zero_le _, hc, hn, fun h => absurd h (by omega)⟩

def nums (l : List Int) : List Value := l.map (Value.int .i64)
theorem nums_length (l : List Int) : (nums l).length = l.length := by simp [nums]
theorem nums_append (a b : List Int) : nums (a ++ b) = nums a ++ nums b := by simp [nums]
theorem rdj_of_owns {w : World} {base e n : Nat} {v : Value} {l : List Int} (h : w.ownsRow base e 1 v n (nums l)) : ∃ a c, v = .slice a n c ∧ RdJ w a n c l := by
  have hl : l.length = n := by have := h.1; rw [nums_length] at this; omega
  rcases h.2 with ⟨rfl, rfl⟩ | ⟨g, cap, cur, rfl, hb, hg, hn, hm, _, _⟩
  · obtain rfl : l = [] := List.eq_nil_of_length_eq_zero hl
    exact ⟨none, 0, rfl, RdJ.nil w⟩
  · refine ⟨some ⟨g, 0, none⟩, cap, rfl, hl, hn, hm, (fun h => by cases h), fun _ => ⟨g, 0, rfl, (h.lt g rfl).2, fun j z hz => ?_⟩⟩
    have hj : j < n := by rw [← hl]; exact (List.getElem?_eq_some_iff.1 hz).1
    rw [Nat.zero_add, h.cellAt j (by omega), nums, List.getElem?_map, hz]
    rfl

set_option maxRecDepth 100000 in
set_option maxHeartbeats 1000000 in
theorem from_any (a : Option Addr) (n c : Nat) (l : List Rc) (y : Int) (w0 w : World) (h : RdC w0 a n c l) (hb0 : Below w0.heap.size w0 w) (hk : ∀ x ∈ l, Ck x) :
    Calls Tryd.prog 68 #[.slice a n c, .int .i64 y] w fun e w' => ∃ a' c', e = .returned (.slice a' (frm l y).length c') ∧ RdC w0 a' (frm l y).length c' (frm l y) ∧ ∃ q, w' = w.drewN q := by
  have H := hid h
  have HB0 := hid hb0
  clear hb0
  have HK := hid hk
  clear h hk
  go_enter Tryd.func68, Tryd.ntmps68
  go_wp2
  go_loopw [0] (fun v wr => ∃ (a1 : Option Addr) (n1 c1 : Nat) (l1 : List Rc), v = .slice a1 n1 c1 ∧ RdC w0 a1 n1 c1 l1 ∧ (∀ x ∈ l1, Ck x) ∧ frm l1 y = frm l y ∧ ∃ q, wr = w.drewN q) (fun v _ => lenOf v)
  case atStart => exact ⟨a, n, c, l, rfl, H.out, HK.out, rfl, 0, rfl⟩
  case round =>
    obtain ⟨a1, n1, c1, l1, rfl, h1, k1, hp, q, rfl⟩ := hrel
    have hn1 := h1.len
    have hs1 := h1.small
    cases l1 with
    | nil =>
      obtain rfl : n1 = 0 := hn1.symm
      have HE : Hid (frm l y = []) := by rw [Hid, ← hp]; rfl
      have H1 := hid h1
      clear hp h1 hn1
      go_wp2
      go_quiet (fail)
      go_wp2
      go_ret
      rw [HE.out, World.drewN_drewN]
      exact ⟨_, _, rfl, H1.out, _, rfl⟩
    | cons r t =>
      have hn0 : 0 < n1 := by rw [← hn1]; simp
      have e1 : decide (0 < (n1 : Int)) = true := decide_eq_true (by omega)
      obtain ⟨b, off, rfl, hb, hel⟩ := (h1.on HB0.out).pl hn0
      obtain ⟨_, _, y0, _, h0⟩ := hel 0 r rfl
      simp only [Nat.zero_mul, Nat.add_zero] at y0 h0
      have e2 : IntKind.i64.wrap (r.y + r.h) = r.y + r.h := by
        obtain ⟨g1, g2, g3, g4, g5, g6⟩ := k1 r (by simp)
        rw [IntKind.wrap_i64]
        omega
      have H1 := hid h1
      have HD := hid (h1.drop (show 1 ≤ n1 by omega))
      have K1 := hid k1
      have HP := hid hp
      have hle := h1.le
      rw [List.drop_one, List.tail_cons, Nat.one_mul] at HD
      clear hp h1 hel k1
      have HN := hid hn1
      clear hn1
      cases hq : decide (r.y + r.h ≤ y)
      · have HE : Hid (frm l y = r :: t) := by rw [Hid, ← HP.out, frm, List.dropWhile_cons, if_neg (by rw [hq]; decide)]
        go_wp2
        go_quiet (fail)
        go_wp2
        go_ret
        rw [HE.out, HN.out, World.drewN_drewN]
        exact ⟨some ⟨b, off, none⟩, c1, rfl, H1.out, _, rfl⟩
      · have HE : Hid (frm t y = frm l y) := by rw [Hid, ← HP.out, frm, frm, List.dropWhile_cons, if_pos hq]
        by_cases hc : c1 = 1
        · obtain rfl : n1 = 1 := by omega
          have HD2 : Hid (RdC w0 (some ⟨b, off, none⟩) 0 0 t) := by
            have h1 := HD.out.len
            rw [Hid, List.eq_nil_of_length_eq_zero h1]
            exact RdC.none_of _ _ (Nat.zero_le _) (fun h => by cases h)
          subst hc
          go_wp2
          go_quiet (fail)
          go_wp2
          go_roundw
          case rel => exact ⟨_, _, _, t, rfl, HD2.out, fun x hx => K1.out x (by simp [hx]), HE.out, _, rfl⟩
          case measure => simp [lenOf]
        · go_wp2
          go_quiet (fail)
          go_wp2
          go_roundw
          case rel => exact ⟨_, _, _, t, rfl, HD.out, fun x hx => K1.out x (by simp [hx]), HE.out, _, rfl⟩
          case measure => simp [lenOf]; omega

/-- Odd. -/
def od (n : Nat) : Bool := decide (n % 2 = 1)
theorem od_succ (n : Nat) : od (n + 1) = !od n := by
  unfold od
  rw [Bool.eq_iff_iff]
  simp
  omega

set_option maxRecDepth 100000 in
theorem odd_any (n : Nat) (w : World) : Calls Tryd.prog 81 #[.int .i64 n] w fun e w' => e = .returned (.bool (od n)) ∧ w' = w := by
  have hr : (n : Int).tmod 2 = ((n % 2 : Nat) : Int) := by rw [Int.tmod_eq_emod_of_nonneg (by omega)]; omega
  go_enter Tryd.func81, Tryd.ntmps81
  go_wp2
  go_ret
  refine ⟨ret_bool ?_, rfl⟩
  rw [od, Bool.eq_iff_iff]
  simp
  omega

/-- The least of both. -/
def lst (a b : List Int) : Int := match a, b with
  | [], [] => 0
  | [], y :: _ => y
  | x :: _, [] => x
  | x :: _, y :: _ => min x y

set_option maxRecDepth 100000 in
set_option maxHeartbeats 1000000 in
theorem least_any (a a' : Option Addr) (n c n' c' : Nat) (l m : List Int) (w : World) (h : RdJ w a n c l) (h' : RdJ w a' n' c' m) (h0 : 0 < n ∨ 0 < n') :
    Calls Tryd.prog 80 #[.slice a n c, .slice a' n' c'] w fun e w' => e = .returned (.int .i64 (lst l m)) ∧ ∃ q, w' = w.drewN q := by
  have hl := h.len
  have hl' := h'.len
  have hn63 := h.small.1
  have hn63' := h'.small.1
  cases l with
  | nil =>
    obtain rfl : n = 0 := hl.symm
    cases m with
    | nil => simp at hl'; omega
    | cons y m =>
      obtain ⟨b, off, rfl, hb, hel⟩ := h'.pl (by omega)
      have y0 := hel 0 y rfl
      simp only [Nat.add_zero] at y0
      have e1 : (0 : Int) < n' := by omega
      clear hel h h' h0 hl hl'
      go_enter Tryd.func80, Tryd.ntmps80
      go_wp2
      go_ret
      exact ⟨rfl, 0, rfl⟩
  | cons x l =>
    have hn0 : 0 < n := by rw [← hl]; simp
    obtain ⟨b, off, rfl, hb, hel⟩ := h.pl hn0
    have x0 := hel 0 x rfl
    simp only [Nat.add_zero] at x0
    have e1 : (0 : Int) < n := by omega
    have e3 : ((n : Int) == 0) = false := by simp; omega
    cases m with
    | nil =>
      obtain rfl : n' = 0 := hl'.symm
      clear hel h h' h0 hl
      go_enter Tryd.func80, Tryd.ntmps80
      go_wp2
      go_ret
      exact ⟨rfl, 0, rfl⟩
    | cons y m =>
      have hn1 : 0 < n' := by rw [← hl']; simp
      obtain ⟨b', off', rfl, hb', hel'⟩ := h'.pl hn1
      have y0 := hel' 0 y rfl
      simp only [Nat.add_zero] at y0
      have e2 : (0 : Int) < n' := by omega
      have e4 : ((n' : Int) == 0) = false := by simp; omega
      clear hel hel' h h' h0 hl hl'
      go_enter Tryd.func80, Tryd.ntmps80
      go_wp2
      -- HERE
      go_region
      all_goals
        go_wp2
        go_ret
        exact ⟨rfl, _, rfl⟩
end Go.Proofs.YtmiapccngeafkaaDoor
