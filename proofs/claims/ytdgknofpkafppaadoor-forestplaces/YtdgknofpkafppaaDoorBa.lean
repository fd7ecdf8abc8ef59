/- Small laws on worlds that only grow, but for some blocks; no program. -/
import Derived.WalkKit
import Derived.ProofKit
import Derived.Deep.AppendSrc
import Derived.Laws.BytesArg
import Derived.Lib.SlBytesRow
import Derived.Deep.RegionHeldLaw
import Derived.Maps.OwnSet
import Derived.Lib.SmallJoins
import Derived.OpenShut
import Derived.ShutString
import Derived.ChangeOld
import Derived.SizedLaws
import Derived.Laws.OwnMore
import Derived.Deep.DeepCutAuto
import Derived.Deep.CutRange
import Derived.Test.YtdgknofpkafppaaDoorChecked
import Derived.Laws.CopyOwn
import Derived.BigQuiet
import Derived.Maps.OwnOps
import Derived.Maps.Range
import Derived.Lib.SlKeysI
import Derived.Lib.Builder
namespace Go.Proofs.YtdgknofpkafppaaDoor
open Go Go.RowKit

theorem hid {p : Prop} (h : p) : Hid p := h

theorem Below.on {w w1 w2 : World} (h : Below w.heap.size w w1) (h2 : Below w1.heap.size w1 w2) : Below w.heap.size w w2 := h.trans (h2.mono h.size)

theorem wpAnyH_mono {P : Program} {md : Region.Mode} {ops : Array Oper} {Q : Exit → Act → World → Prop} {S S' : World → Prop} (h : ∀ x, S' x → S x) : ∀ {fuel : Nat} {listed : Array Bool} {a : Act} {w : World}, wpAnyH P md ops Q S' fuel listed a w → wpAnyH P md ops Q S fuel listed a w
  | 0, _, _, _, hh => hh
  | _ + 1, _, _, _, hh => ⟨hh.1, fun i hi => wpOp_mono (fun _ _ q => ⟨h _ q.1, wpAnyH_mono h q.2⟩) (hh.2 i hi)⟩

theorem ownsRow_low {w : World} {base base' e size n : Nat} {v : Value} {xs : List Value} (h : w.ownsRow base e size v n xs) (hb : base' ≤ base) : w.ownsRow base' e size v n xs := by
  refine ⟨h.1, ?_⟩
  rcases h.2 with q | ⟨g, cap, cur, e1, e2, e3⟩
  · exact .inl q
  · exact .inr ⟨g, cap, cur, e1, by omega, e3⟩

theorem ownsRow_below {w w' : World} {base e size n : Nat} {v : Value} {xs : List Value} (h : w.ownsRow base e size v n xs) (hb : Below w.heap.size w w') : w'.ownsRow base e size v n xs := by
  refine ⟨h.1, ?_⟩
  rcases h.2 with q | ⟨g, cap, cur, e1, e2, e3, e4⟩
  · exact .inl q
  · exact .inr ⟨g, cap, cur, e1, e2, by rw [hb.block _ (Array.getElem?_eq_some_iff.1 e3).1]; exact e3, e4⟩

theorem below_drewN {u v : World} {B : Nat} (h : Below B u v) (q : Nat) : Below B u (v.drewN q) := ⟨h.os, h.tape, h.output, h.size, h.block⟩

/-- Of the blocks that were there only those of X may have turned. -/
structure Kp (X : List Nat) (w w' : World) : Prop where
  os : w'.os = w.os
  tape : w'.tape = w.tape
  output : w'.output = w.output
  size : w.heap.size ≤ w'.heap.size
  block : ∀ k, k < w.heap.size → k ∉ X → w'.heap[k]? = w.heap[k]?

theorem Kp.below {X : List Nat} {w w' : World} {B : Nat} (h : Kp X w w') (hB : B ≤ w.heap.size) (hX : ∀ k ∈ X, B ≤ k) : Below B w w' :=
  ⟨h.os, h.tape, h.output, h.size, fun k hk => h.block k (by omega) (fun hm => by have := hX k hm; omega)⟩
theorem kp_of_below {w w' : World} (h : Below w.heap.size w w') (X : List Nat) : Kp X w w' := ⟨h.os, h.tape, h.output, h.size, fun k hk _ => h.block k hk⟩
theorem kp_of_grown {w w' : World} {row : Option Nat} (h : w.grownBy w' row) : Kp row.toList w w' :=
  ⟨h.os, h.tape, h.output, h.size, fun k hk hn => h.block k hk (fun e => hn (by rw [← e]; simp))⟩
theorem Kp.trans {X Y : List Nat} {w w1 w2 : World} (h : Kp X w w1) (h1 : Kp Y w1 w2) (hY : ∀ k ∈ Y, k < w.heap.size → k ∈ X) : Kp X w w2 :=
  ⟨h1.os.trans h.os, h1.tape.trans h.tape, h1.output.trans h.output, Nat.le_trans h.size h1.size, fun k hk hn => by
    rw [h1.block k (Nat.lt_of_lt_of_le hk h.size) (fun hm => hn (hY k hm hk))]
    exact h.block k hk hn⟩
theorem Kp.mono {X Y : List Nat} {w w1 : World} (h : Kp X w w1) (hY : ∀ k ∈ X, k < w.heap.size → k ∈ Y) : Kp Y w w1 :=
  ⟨h.os, h.tape, h.output, h.size, fun k hk hn => h.block k hk (fun hm => hn (hY k hm hk))⟩
theorem Kp.set {X : List Nat} {w w1 : World} (h : Kp X w w1) (p : Addr) (hp : p.block ∈ X) (u : Value) : Kp X w (w1.setCell p u) :=
  h.trans (Y := [p.block]) ⟨rfl, rfl, rfl, by simp [World.setCell], fun k _ hn => Below.heap_setCell _ _ _ _ (fun e => hn (by simp [e]))⟩ (fun k hk _ => by
    simp only [List.mem_cons, List.not_mem_nil, or_false] at hk
    rw [hk]
    exact hp)
theorem Kp.var {X : List Nat} {w w' : World} (h : Kp X w w') {k : Nat} {o : Obj} (ho : w.heap[k]? = some o) (hn : k ∉ X) : w'.heap[k]? = some o := by
  rw [h.block k (Array.getElem?_eq_some_iff.1 ho).1 hn]
  exact ho
theorem Kp.row {X : List Nat} {w w' : World} (h : Kp X w w') {base e size n : Nat} {v : Value} {xs : List Value} (ho : w.ownsRow base e size v n xs) (hn : ∀ k, v.ownBlock = some k → k ∉ X) : w'.ownsRow base e size v n xs := by
  refine ⟨ho.1, ?_⟩
  rcases ho.2 with q | ⟨g, cap, cur, rfl, e2, e3, e4⟩
  · exact .inl q
  · exact .inr ⟨g, cap, cur, rfl, e2, h.var e3 (hn g rfl), e4⟩
/-- A write into a block where the row does not lie. -/
theorem ownsRow_set {w : World} {base e size n : Nat} {v : Value} {xs : List Value} (h : w.ownsRow base e size v n xs) (p : Addr) (hp : v.ownBlock ≠ some p.block) (u : Value) : (w.setCell p u).ownsRow base e size v n xs :=
  ((kp_of_below (Below.refl _ _) [p.block]).set p (by simp) u).row h (fun k hk hm => by
    simp only [List.mem_cons, List.not_mem_nil, or_false] at hm
    exact hp (by rw [hk, hm]))

theorem kp_turned {w w' : World} {b : Nat} (h : w.mapTurned w' b) : Kp [b] w w' := kp_of_grown h.grown
theorem Kp.refl (X : List Nat) (w : World) : Kp X w w := kp_of_below (Below.refl _ _) X
theorem Kp.cell {X : List Nat} {w w' : World} (h : Kp X w w') {a : Addr} {v : Value} (hc : w.cell? a = some v) (hn : a.block ∉ X) : w'.cell? a = some v := by
  rw [← hc]
  simp only [World.cell?, h.block a.block (World.block_lt_of_cell? w _ hc) hn]
end Go.Proofs.YtdgknofpkafppaaDoor

/- Laws on slices of bytes that a call makes or reads, over any program: what an append leaves of a row of the call's own, whatever is appended (a slice, nil, a string). No condition but the sizes that Go's own append asks. -/
namespace Go.Proofs.YtdgknofpkafppaaDoor
open Go Go.RowKit

/-- Bytes as cells. -/
def bc (l : List UInt8) : List Value := l.map fun b => Value.int .u8 b.toNat

theorem bc_length (l : List UInt8) : (bc l).length = l.length := by simp [bc]
theorem bc_append (a b : List UInt8) : bc (a ++ b) = bc a ++ bc b := by simp [bc]
theorem bc_one (l : List UInt8) : ∀ u ∈ bc l, u.oneCell' = true := by
  intro u hu
  obtain ⟨_, _, rfl⟩ := List.mem_map.1 hu
  rfl
theorem byteCells_eq (s : ByteArray) : byteCells s = bc s.data.toList := rfl

/-- Go's own growth, closely: a quarter more than is needed, and some. -/
theorem nextslicecap_near {need old : Nat} (h : old < need) : Builtin.nextslicecap need old ≤ need + need / 4 + 512 := by
  unfold Builtin.nextslicecap
  split
  · omega
  · split
    · omega
    · rw [growBy_four]
      repeat' split
      all_goals omega

theorem fits1 {need : Nat} (h : need ≤ 225000000000000) : ∀ old, old < need → Builtin.nextslicecap need old * 1 ≤ 281474976710656 := fun old ho => by
  have := nextslicecap_near ho
  omega

section
variable {P : Program} (w : World)

theorem run_append_room_own (t tx ty e : TypeId) (i : TypeInfo) (ht : P.underlying t = some (.slice e)) (hi : P.info? e = some i)
    (g sLen sCap : Nat) (cur : Array Value) (hg : w.heap[g]? = some (.cells cur e (0, 0)))
    (x : Value) (m : Nat) (news : List Value) (hs : Src P i.size tx x m news w)
    (hroom : sLen + m ≤ sCap) (hfit : sLen * i.size + news.length ≤ cur.size) :
    (Builtin.append_ #[t, tx] ty #[.slice (some ⟨g, 0, none⟩) sLen sCap, x]).run P w =
      .ok (.slice (some ⟨g, 0, none⟩) (sLen + m) sCap) (w.setRow g (cur.toList.take (sLen * i.size) ++ news ++ cur.toList.drop (sLen * i.size + news.length)).toArray) := by
  have hst := run_storeCells_at P g (sLen * i.size) e news 0 cur w hg (by simpa using hfit) hs.one
  simp only [Nat.add_zero] at hst
  rcases hs.kind with ⟨e', hk⟩ | hk <;> simp [Builtin.append_, run_underlying ht, run_underlying hk, sizeOf, typeInfo, hi, hs.len, hroom, hs.cells, Addr.add_lit, hst]

/-- An append onto a row of the call's own, or onto nil, of whatever. -/
theorem run_append_own_src (base : Nat) (t tx ty e : TypeId) (i : TypeInfo) (z : Value) (size bytes : Nat) (ht : P.underlying t = some (.slice e)) (hi : P.info? e = some i) (hz : i.zero = some z)
    (hsize : i.size = size) (hby : i.bytes = bytes) (hzs : z.cells.size = size)
    (v : Value) (n : Nat) (xs : List Value) (hown : w.ownsRow base e size v n xs)
    (x : Value) (m : Nat) (news : List Value) (hs : Src P size tx x m news w)
    (h63 : n + m ≤ maxLen) (hbytes : ∀ old, old < n + m → Builtin.nextslicecap (n + m) old * bytes ≤ 281474976710656) (hbase : base ≤ w.heap.size) :
    ∃ v' w', (Builtin.append_ #[t, tx] ty #[v, x]).run P w = .ok v' w' ∧ w'.ownsRow base e size v' (n + m) (xs ++ news) ∧ w.grownBy w' v.ownBlock := by
  subst hsize
  subst hby
  have hl := hs.newsLen
  have hsmall : n + m ≤ 9223372036854775807 := by simp only [maxLen] at h63; omega
  have hlen : (xs ++ news).length = (n + m) * i.size := by rw [List.length_append, hown.1, hl, Nat.add_mul]
  have grown : ∀ (old : Nat), old < n + m → ∀ (row : Option Nat),
      (w.drew.alloc (.cells ((xs ++ news).toArray ++ Builtin.zeroCells z.cells (grownCap w (n + m) old e - (n + m))) e)).ownsRow base e i.size
        (.slice (some ⟨w.heap.size, 0, none⟩) (n + m) (grownCap w (n + m) old e)) (n + m) (xs ++ news) ∧
      w.grownBy (w.drew.alloc (.cells ((xs ++ news).toArray ++ Builtin.zeroCells z.cells (grownCap w (n + m) old e - (n + m))) e)) row := by
    intro old ho row
    have hge := grownCap_ge w (n + m) old e
    have hcm : grownCap w (n + m) old e ≤ maxLen := grownCap_le_maxLen w (n + m) old e h63
    refine ⟨⟨hlen, .inr ⟨w.heap.size, _, _, rfl, hbase, _root_.Go.heap_alloc_new w.drew _, hge, hcm, ?_, ?_⟩⟩, ⟨rfl, rfl, rfl, by simp, fun k hk _ => Below.heap_alloc w.drew _ k hk⟩⟩
    · simp only [Array.size_append, List.size_toArray, size_zeroCells, hzs, hlen, ← Nat.add_mul]
      congr 1
      omega
    · simp only [Array.toList_append]
      rw [← hlen]
      exact List.take_left
  rcases hown.2 with ⟨rfl, rfl⟩ | ⟨g, cap, cur, rfl, hbg, hg, hnc, hcm, hcs, htake⟩
  · have hx : xs = [] := List.eq_nil_of_length_eq_zero (by simpa using hown.1)
    subst hx
    by_cases hm : m = 0
    · subst hm
      have hn : news = [] := List.eq_nil_of_length_eq_zero (by simpa using hl)
      subst hn
      refine ⟨.slice none 0 0, w, ?_, World.ownsRow_nil w base e i.size, ⟨rfl, rfl, rfl, Nat.le_refl _, fun _ _ _ => rfl⟩⟩
      rcases hs.kind with ⟨e', hk⟩ | hk <;> simp [Builtin.append_, run_underlying ht, run_underlying hk, sizeOf, typeInfo, hi, hs.len, hs.cells]
    · have hr := run_append_grow_src (P := P) w t tx ty e i z ht hi hz none 0 0 [] (run_firstCells_none w.drew i.size 0 0 0) x m news hs (by omega) (by omega) (hbytes _ (by omega))
      have hgr := grown 0 (by omega) (Value.ownBlock (.slice none 0 0))
      exact ⟨_, _, hr, hgr.1, hgr.2⟩
  · by_cases hroom : n + m ≤ cap
    · have hfit : n * i.size + news.length ≤ cur.size := by rw [hl, hcs, ← Nat.add_mul]; exact Nat.mul_le_mul_right _ hroom
      have hr := run_append_room_own (P := P) w t tx ty e i ht hi g n cap cur hg x m news hs hroom hfit
      refine ⟨_, _, hr, ⟨hlen, .inr ⟨g, cap, _, rfl, hbg, setRow_heap w g cur _ e _ hg, hroom, hcm, ?_, ?_⟩⟩, ⟨rfl, rfl, rfl, by simp, fun k _ hk => setRow_other w g k _ (fun e => hk (by simp [Value.ownBlock, e]))⟩⟩
      · simp only [List.size_toArray, List.length_append, List.length_take, List.length_drop, Array.length_toList]
        omega
      · rw [htake, ← hlen]
        exact List.take_left
    · have holds : ∀ j u, xs[j]? = some u → w.cell? ((⟨g, 0, none⟩ : Addr).add j) = some u := hown.cells (g := g) rfl
      have hold := run_firstCells_some (P := P) w.drew i.size n ⟨g, 0, none⟩ n cap xs hown.1 (by simpa using holds)
      have hr := run_append_grow_src (P := P) w t tx ty e i z ht hi hz (some ⟨g, 0, none⟩) n cap xs hold x m news hs (by omega) (by omega) (hbytes _ (by omega))
      have hgr := grown cap (by omega) (Value.ownBlock (.slice (some ⟨g, 0, none⟩) n cap))
      exact ⟨_, _, hr, hgr.1, hgr.2⟩

theorem wpList_append_own_src {ops : Array Oper} {rest : List Oper} {o : Oper} {a : Act} {Q : Exit → Act → World → Prop} (hgd : o.guard = none) (s x : Operand) (t tx : TypeId)
    (ho : o.op = .call { callee := .builtin .append, args := #[s, x], argTypes := #[t, tx] })
    (base : Nat) (e : TypeId) (i : TypeInfo) (z : Value) (size bytes : Nat) (ht : P.underlying t = some (.slice e)) (hi : P.info? e = some i) (hz : i.zero = some z)
    (hsize : i.size = size) (hby : i.bytes = bytes) (hzs : z.cells.size = size)
    (v : Value) (n : Nat) (xs : List Value) (hs : a.eval s = v) (hown : w.ownsRow base e size v n xs)
    (xv : Value) (m : Nat) (news : List Value) (hx : a.eval x = xv) (hsrc : Src P size tx xv m news w)
    (h63 : n + m ≤ maxLen) (hbytes : ∀ old, old < n + m → Builtin.nextslicecap (n + m) old * bytes ≤ 281474976710656) (hbase : base ≤ w.heap.size)
    (h : ∀ v' w', w'.ownsRow base e size v' (n + m) (xs ++ news) → w.grownBy w' v.ownBlock → wpList P ops Q rest (a.put o.dst v') w') : wpList P ops Q (o :: rest) a w :=
  wpList_plain hgd fun K hK => by
    obtain ⟨v', w', hr, h2, h3⟩ := run_append_own_src (P := P) w base t tx o.type e i z size bytes ht hi hz hsize hby hzs v n xs hown xv m news hsrc h63 hbytes hbase
    unfold Oper.wp execOp
    simp only [ho, resolve, invoke, builtin, Sem.run_bind, Sem.run_pure, Result.andThen_ok, List.map_toArray, List.map_cons, List.map_nil, hs, hx, hr]
    exact hK _ _ (h v' w' h2 h3)
end

/-- A slice whose first n cells are the bytes l. -/
structure Rd (w : World) (a : Option Addr) (n c : Nat) (l : List UInt8) : Prop where
  len : l.length = n
  le : n ≤ c
  max : c ≤ maxLen
  hnil : a = none → c = 0
  cells : ∀ x, a = some x → ∀ j u, (bc l)[j]? = some u → w.cell? (x.add j) = some u

theorem Rd.nil (w : World) : Rd w none 0 0 [] := ⟨rfl, Nat.le_refl _, Nat.zero_le _, fun _ => rfl, fun _ h => by cases h⟩

theorem Rd.below {w w' : World} {B : Nat} {a : Option Addr} {n c : Nat} {l : List UInt8} (h : Rd w a n c l) (hb : Below B w w') (ha : ∀ x, a = some x → 0 < l.length → x.block < B) : Rd w' a n c l :=
  ⟨h.len, h.le, h.max, h.hnil, fun x hx j u hu => by
    have hj : j < l.length := by
      rcases Nat.lt_or_ge j l.length with h' | h'
      · exact h'
      · rw [List.getElem?_eq_none (by rw [bc_length]; exact h')] at hu; cases hu
    rw [hb.cell (p := x.add j) (by have := ha x hx (by omega); unfold Addr.add; split <;> simpa using this)]
    exact h.cells x hx j u hu⟩

/-- What is appended by 'append(x, b...)'. -/
theorem Rd.src {P : Program} {w : World} {a : Option Addr} {n c : Nat} {l : List UInt8} (h : Rd w a n c l) {t e : TypeId} (ht : P.underlying t = some (.slice e)) : Src P 1 t (.slice a n c) n (bc l) w := by
  cases a with
  | none =>
    have h1 := h.hnil rfl
    have h2 := h.le
    have h3 := h.len
    obtain rfl : n = 0 := by omega
    obtain rfl : l = [] := List.eq_nil_of_length_eq_zero h3
    exact Src.ofNil w ht c
  | some x => exact Src.ofSlice w ht x n c (bc l) (by rw [bc_length, h.len, Nat.mul_one]) (h.cells x rfl) (bc_one l)

/-- Where it has a byte its address is a plain one. -/
theorem Rd.plain {w : World} {a : Option Addr} {n c : Nat} {l : List UInt8} (h : Rd w a n c l) (hn : 0 < n) : ∃ b off, a = some ⟨b, off, none⟩ ∧ b < w.heap.size ∧ ∀ j (hj : j < l.length), w.cell? ⟨b, off + j, none⟩ = some (.int .u8 (l[j].toNat : Int)) := by
  cases a with
  | none => have := h.hnil rfl; have := h.le; omega
  | some x =>
    obtain ⟨b, off, spot⟩ := x
    have hl := h.len
    have at' : ∀ j (hj : j < l.length), w.cell? ((⟨b, off, spot⟩ : Addr).add j) = some (.int .u8 (l[j].toNat : Int)) := fun j hj => h.cells _ rfl j _ (by simp [bc, List.getElem?_eq_getElem hj])
    have hspot : spot = none := by simpa [Addr.add] using World.cell?_spot (at' 0 (by omega))
    subst hspot
    refine ⟨b, off, rfl, World.block_lt_of_cell? w _ (by simpa [Addr.add] using at' 0 (by omega)), fun j hj => ?_⟩
    rw [← Go.WideShapes.add_plain]
    exact at' j hj

theorem rd_of_owns {w : World} {base e n : Nat} {v : Value} {l : List UInt8} (h : w.ownsRow base e 1 v n (bc l)) : ∃ a c, v = .slice a n c ∧ Rd w a n c l ∧ (∀ x, a = some x → base ≤ x.block ∧ x.block < w.heap.size) := by
  have hl : l.length = n := by have := h.1; rw [bc_length] at this; omega
  rcases h.2 with ⟨rfl, rfl⟩ | ⟨g, cap, cur, rfl, hb, hg, hn, hm, _, _⟩
  · obtain rfl : l = [] := List.eq_nil_of_length_eq_zero hl
    exact ⟨none, 0, rfl, Rd.nil w, fun x hx => by cases hx⟩
  · refine ⟨some ⟨g, 0, none⟩, cap, rfl, ⟨hl, hn, hm, (fun h => by cases h), fun x hx => ?_⟩, fun x hx => ?_⟩
    · cases hx
      exact h.cells rfl
    · cases hx
      exact ⟨hb, (Array.getElem?_eq_some_iff.1 hg).1⟩

/-- A slice whose first n cells are the numbers zs, each of the kind k. -/
structure RdI (k : IntKind) (w : World) (a : Option Addr) (n c : Nat) (zs : List Int) : Prop where
  len : zs.length = n
  le : n ≤ c
  max : c ≤ maxLen
  hnil : a = none → c = 0
  cells : ∀ x, a = some x → ∀ j, j < n → w.cell? (x.add j) = some (.int k (zs.getD j 0))
  wf : ∀ z ∈ zs, (Lit.int k z).wf = true

theorem RdI.nil (k : IntKind) (w : World) : RdI k w none 0 0 [] := ⟨rfl, Nat.le_refl _, Nat.zero_le _, fun _ => rfl, (fun _ h => by cases h), fun _ h => by cases h⟩

theorem RdI.ofRow {k : IntKind} {w : World} {x : Addr} {n c : Nat} {zs : List Int} (hl : n ≤ c) (hm : c ≤ maxLen) (hz : zs.length = c * 1) (hcell : ∀ i, i < zs.length → w.cell? (x.add i) = some (.int k (zs.getD i 0)))
    (hw : ∀ z ∈ zs, (Lit.int k z).wf = true) : RdI k w (some x) n c (zs.take n) := by
  refine ⟨by rw [List.length_take]; omega, hl, hm, (fun h => by cases h), fun y hy j hj => ?_, fun z h => hw z (List.mem_of_mem_take h)⟩
  cases hy
  rw [hcell j (by omega), List.getD, List.getD, List.getElem?_take_of_lt hj]

theorem RdI.plain {k : IntKind} {w : World} {a : Option Addr} {n c : Nat} {zs : List Int} (h : RdI k w a n c zs) (hn : 0 < n) : ∃ b off, a = some ⟨b, off, none⟩ ∧ b < w.heap.size ∧ ∀ j, j < zs.length → w.cell? ⟨b, off + j, none⟩ = some (.int k (zs.getD j 0)) := by
  cases a with
  | none => have := h.hnil rfl; have := h.le; omega
  | some x =>
    obtain ⟨b, off, spot⟩ := x
    have hl := h.len
    have hspot : spot = none := by simpa [Addr.add] using World.cell?_spot (h.cells _ rfl 0 hn)
    subst hspot
    refine ⟨b, off, rfl, World.block_lt_of_cell? w _ (by simpa [Addr.add] using h.cells _ rfl 0 hn), fun j hj => ?_⟩
    rw [← Go.WideShapes.add_plain]
    exact h.cells _ rfl j (by omega)

/-- Of bytes: the list of bytes. -/
theorem RdI.bytes {w : World} {a : Option Addr} {n c : Nat} {zs : List Int} (h : RdI .u8 w a n c zs) : ∃ l, Rd w a n c l ∧ zs = l.map fun b => (b.toNat : Int) := by
  have e : zs = (zs.map fun z => UInt8.ofNat z.toNat).map fun b => (b.toNat : Int) := by
    rw [List.map_map]
    conv => lhs; rw [← List.map_id zs]
    apply List.map_congr_left
    intro z hz
    have := h.wf z hz
    simp [Lit.wf, IntKind.min, IntKind.max, IntKind.signed, IntKind.bits] at this
    simp only [id_eq, Function.comp_apply, UInt8.toNat_ofNat']
    omega
  refine ⟨zs.map fun z => UInt8.ofNat z.toNat, ⟨by rw [List.length_map]; exact h.len, h.le, h.max, h.hnil, fun x hx j u hu => ?_⟩, e⟩
  have hj : j < n := by
    rcases Nat.lt_or_ge j n with h' | h'
    · exact h'
    · rw [List.getElem?_eq_none (by rw [bc_length, List.length_map, h.len]; exact h')] at hu; cases hu
  rw [h.cells x hx j hj, ← hu]
  have e2 : bc (zs.map fun z => UInt8.ofNat z.toNat) = zs.map (Value.int .u8) := by
    conv => rhs; rw [e]
    rw [bc, List.map_map, List.map_map, List.map_map]
    rfl
  rw [e2, List.getElem?_map, List.getD]
  have hz : j < zs.length := by rw [h.len]; exact hj
  simp [List.getElem?_eq_getElem hz]

theorem map_ofNat_toNat (l : List UInt8) : (l.map fun b => (b.toNat : Int)).map (fun n => UInt8.ofNat n.toNat) = l := by
  rw [List.map_map]
  conv => rhs; rw [← List.map_id l]
  apply List.map_congr_left
  intro x _
  simp

/-- 'string(b)'. -/
theorem Rd.conv {P : Program} {w : World} {a : Option Addr} {n c : Nat} {l : List UInt8} (h : Rd w a n c l) (src dst e : TypeId) (hs : P.underlying src = some (.slice e)) (he : P.underlying e = some (.int .u8)) (hd : P.underlying dst = some .string) :
    (convert src dst (.slice a n c)).run P w = .ok (.string ⟨l.toArray⟩) w := by
  cases a with
  | none =>
    have h0 := h.hnil rfl
    have h1 := h.le
    have h2 := h.len
    obtain rfl : l = [] := List.eq_nil_of_length_eq_zero (by omega)
    rw [run_convert_bytes_string w src dst e _ n c hs he hd]
    simp [Conv.bytesToString]
    rfl
  | some x =>
    have hl : (loadCells x n).run P w = .ok ((l.map fun b => (b.toNat : Int)).map (Value.int .u8)).toArray w := by
      have := run_loadCells_list (P := P) w x (bc l) (fun j v hj => h.cells x rfl j v hj)
      rw [bc_length, h.len] at this
      rw [this, bc, List.map_map]
      rfl
    rw [run_convert_bytes_string w src dst e _ n c hs he hd, run_bytesToString w _ n c _ hl, foldl_push_bytes, map_ofNat_toNat]
    simp [ByteArray.empty, ByteArray.emptyWithCapacity]
    rfl

end Go.Proofs.YtdgknofpkafppaaDoor

/- Slices of structs of numbers, as they come in: opened. Over any program. -/
namespace Go.Proofs.YtdgknofpkafppaaDoor
open Go Go.ChangeShapes Go.WideShapes Go.ChangeAt Go.RowKit Go.Deep

/-- A slice whose first n elements are structs of m numbers, l. -/
structure RdN (m : Nat) (w : World) (a : Option Addr) (n c : Nat) (l : List (List Int)) : Prop where
  len : l.length = n
  le : n ≤ c
  max : c ≤ maxLen
  hnil : a = none → c = 0
  cells : ∀ x, a = some x → ∀ j y, l[j]? = some y → ∀ i z, y[i]? = some z → w.cell? (x.add (j * m + i)) = some (.int .i64 z)
  size : ∀ y ∈ l, y.length = m
  wf : ∀ y ∈ l, ∀ z ∈ y, (Lit.int .i64 z).wf = true

/-- A struct of numbers alone, a cell each. -/
def numsB (P : Program) (fs : Array Field) : Bool := (List.range fs.size).all fun i => match fs[i]? with
  | some f => decide (f.offset = i) && decide (P.cellsOf f.type = 1) && (match P.underlying f.type with | some (.int .i64) => true | _ => false)
  | none => false

def numOf : Value → Int
  | .int _ a => a
  | _ => 0

variable {H : Type} {enc : TypeId × Value → H} {W : World} {P : Program}

theorem numsB_at {fs : Array Field} (h : numsB P fs = true) {i : Nat} {f : Field} (hi : fs[i]? = some f) : f.offset = i ∧ P.cellsOf f.type = 1 ∧ P.underlying f.type = some (.int .i64) := by
  have hlt : i < fs.size := (Array.getElem?_eq_some_iff.1 hi).1
  have := List.all_eq_true.1 h i (List.mem_range.2 hlt)
  rw [hi] at this
  simp only [Bool.and_eq_true, decide_eq_true_eq] at this
  refine ⟨this.1.1, this.1.2, ?_⟩
  have h3 := this.2
  split at h3
  · assumption
  · cases h3

theorem open_nums {t : TypeId} {fs : Array Field} (ht : P.underlying t = some (.struct fs)) (hc : P.cellsOf t = fs.size) (hf : numsB P fs = true) {n : Nat} {cs : List Value} {x : DataW H × List MemPlace}
    (h : DataW.trod enc P W 0 (fun _ => true) true n t cs = some x) : ∃ y : List Int, y.length = fs.size ∧ cs = y.map (Value.int .i64) ∧ ∀ z ∈ y, (Lit.int .i64 z).wf = true := by
  obtain ⟨xs, k, _, _, hl, hlen, hx⟩ := DataW.trod_struct ht h
  rw [hc] at hl
  have each : ∀ i, i < fs.size → ∃ a, cs[i]? = some (.int .i64 a) ∧ (Lit.int .i64 a).wf = true := fun i hi => by
    obtain ⟨f, hfi⟩ : ∃ f, fs[i]? = some f := ⟨_, Array.getElem?_eq_getElem hi⟩
    obtain ⟨h1, h2, h3⟩ := numsB_at hf hfi
    have hd := hx i f (by rw [← Array.getElem?_toList] at hfi; first | exact hfi | simpa using hfi)
    obtain ⟨yi, hyi⟩ : ∃ y, xs[i]? = some y := ⟨_, List.getElem?_eq_getElem (by rw [hlen]; first | exact hi | simpa using hi)⟩
    rw [h1, h2, hyi] at hd
    obtain ⟨a, e0, _, w0⟩ := DataW.trod_int h3 hd
    refine ⟨a, ?_, w0⟩
    have : ((cs.drop i).take 1)[0]? = some (.int .i64 a) := by rw [e0]; rfl
    rw [List.getElem?_take_of_lt (by omega), List.getElem?_drop] at this
    simpa using this
  refine ⟨cs.map numOf, by rw [List.length_map, hl], ?_, fun z hz => ?_⟩
  · apply List.ext_getElem?
    intro i
    rw [List.getElem?_map, List.getElem?_map]
    rcases Nat.lt_or_ge i fs.size with hi | hi
    · obtain ⟨a, h1, _⟩ := each i hi
      rw [h1]
      rfl
    · rw [List.getElem?_eq_none (by omega)]
      rfl
  · obtain ⟨v, hv, rfl⟩ := List.mem_map.1 hz
    obtain ⟨i, hi⟩ := List.mem_iff_getElem?.1 hv
    have hlt : i < fs.size := by rw [← hl]; exact (List.getElem?_eq_some_iff.1 hi).1
    obtain ⟨a, h1, h2⟩ := each i hlt
    rw [hi] at h1
    cases h1
    exact h2

theorem okWide_nums {t : TypeId} {fs : Array Field} {r : Reach} {b0 : Nat} {v : Value} (ht : P.underlying t = some (.struct fs)) (hc : P.cellsOf t = fs.size) (hf : numsB P fs = true) (hv : Value.okWide P W r b0 t v) {d : DataW H} {p : List MemPlace}
    (h : DataW.Trod enc P W 0 (fun _ => true) true t v d p) : ∃ y : List Int, y.length = fs.size ∧ v = .agg (y.map (Value.int .i64)).toArray ∧ ∀ z ∈ y, (Lit.int .i64 z).wf = true := by
  obtain ⟨cs, rfl, _⟩ := okWide_struct ht hv
  obtain ⟨fuel, hf'⟩ := h
  obtain ⟨y, hy, hcs, hw⟩ := open_nums ht hc hf hf'
  refine ⟨y, hy, ?_, hw⟩
  rw [← hcs]
  simp [Value.cells]

set_option maxRecDepth 100000 in
theorem open_structs {T E : TypeId} {fs : Array Field} {m : Nat} (hT : P.underlying T = some (.slice E)) (ht : P.underlying E = some (.struct fs)) (hm0 : fs.size = m) (hc : P.cellsOf E = m) (hf : numsB P fs = true) {d : DataW H} {p : List MemPlace}
    {a : Option Addr} {n c : Nat} (h : DataW.Trod enc P W 0 (fun _ => true) true T (.slice a n c) d p) : ∃ l, RdN m W a n c l := by
  subst hm0
  obtain ⟨fuel, hf'⟩ := h
  rcases open_slice hT hf' with ⟨hcs, _⟩ | ⟨a, len, cap, mm, k, D, Pl, hcs, hb, hl, hm, hmm, _, hx⟩
  · simp [Value.cells] at hcs
    obtain ⟨rfl, rfl, rfl⟩ := hcs
    exact ⟨[], rfl, Nat.le_refl _, Nat.zero_le _, fun _ => rfl, (fun _ h => by cases h), (fun _ h => by cases h), fun _ h => by cases h⟩
  · simp [Value.cells] at hcs
    obtain ⟨rfl, rfl, rfl⟩ := hcs
    simp only [if_true] at hmm
    subst hmm
    rw [hc] at hx
    have each : ∀ i, i < n → ∃ y : List Int, y.length = fs.size ∧ (∀ z ∈ y, (Lit.int .i64 z).wf = true) ∧ ∀ q z, y[q]? = some z → W.cell? (a.add (i * fs.size + q)) = some (.int .i64 z) := fun i hi => by
      obtain ⟨cs', h1, h2⟩ := hx i (by omega)
      obtain ⟨y, hy, rfl, hw⟩ := open_nums ht hc hf h2
      refine ⟨y, hy, hw, fun q z hq => ?_⟩
      obtain ⟨_, _, hcc⟩ := World.cells?_some h1
      have hlt : q < fs.size := by rw [← hy]; exact (List.getElem?_eq_some_iff.1 hq).1
      have := hcc q hlt
      rw [List.getElem?_map, hq, add_add] at this
      exact this
    obtain ⟨f, hfn⟩ := choose_lt (α := List Int) each
    have mem : ∀ y ∈ (List.range n).map f, ∃ i, i < n ∧ y = f i := fun y hy => by
      obtain ⟨i, hi, rfl⟩ := List.mem_map.1 hy
      exact ⟨i, List.mem_range.1 hi, rfl⟩
    refine ⟨(List.range n).map f, by simp, hl, hm, (fun h => by cases h), fun y hy j z hj q u hu => ?_, fun y hy => ?_, fun y hy => ?_⟩
    · cases hy
      rw [List.getElem?_map] at hj
      obtain ⟨i, hi, rfl⟩ := Option.map_eq_some_iff.1 hj
      have hlt : j < n := by
        rcases Nat.lt_or_ge j n with h' | h'
        · exact h'
        · rw [List.getElem?_eq_none (by simpa using h')] at hi; cases hi
      rw [List.getElem?_range hlt] at hi
      cases hi
      exact (hfn j hlt).2.2 q u hu
    · obtain ⟨i, hi, rfl⟩ := mem y hy
      exact (hfn i hi).1
    · obtain ⟨i, hi, rfl⟩ := mem y hy
      exact (hfn i hi).2.1

/-- An element: where it lies. -/
theorem RdN.at_ {m : Nat} {w : World} {a : Option Addr} {n c : Nat} {l : List (List Int)} (h : RdN m w a n c l) (hm : 0 < m) (j : Nat) (hj : j < n) : ∃ b off y, a = some ⟨b, off, none⟩ ∧ b < w.heap.size ∧ l[j]? = some y ∧ y.length = m ∧ (∀ z ∈ y, -9223372036854775808 ≤ z ∧ z ≤ 9223372036854775807) ∧ ∀ i z, y[i]? = some z → w.cell? ⟨b, off + (j * m + i), none⟩ = some (.int .i64 z) := by
  have hl := h.len
  obtain ⟨y, hy⟩ : ∃ y, l[j]? = some y := ⟨_, List.getElem?_eq_getElem (by omega)⟩
  have hmem := List.mem_of_getElem? hy
  cases a with
  | none => have := h.hnil rfl; have := h.le; omega
  | some x =>
    obtain ⟨b, off, spot⟩ := x
    have hsz := h.size y hmem
    have hspot : spot = none := by
      obtain ⟨y0, hy0⟩ : ∃ y, l[0]? = some y := ⟨_, List.getElem?_eq_getElem (by omega)⟩
      have h0 := h.size y0 (List.mem_of_getElem? hy0)
      have := h.cells _ rfl 0 y0 hy0 0 _ (List.getElem?_eq_getElem (by omega))
      simpa [Addr.add] using World.cell?_spot this
    subst hspot
    have hc := h.cells _ rfl j y hy
    refine ⟨b, off, y, rfl, ?_, hy, hsz, fun z hz => ?_, fun i z hi => ?_⟩
    · have := hc 0 _ (List.getElem?_eq_getElem (by omega))
      rw [Go.WideShapes.add_plain] at this
      exact World.block_lt_of_cell? w _ this
    · have := h.wf y hmem z hz
      simpa [Lit.wf, IntKind.min, IntKind.max, IntKind.signed, IntKind.bits] using this
    · rw [← Go.WideShapes.add_plain]
      exact hc i z hi
end Go.Proofs.YtdgknofpkafppaaDoor

/- Slices of structs of m numbers, read and of a call's own; children put and found; what a surface has. No program. -/
namespace Go.Proofs.YtdgknofpkafppaaDoor
open Go Go.RowKit

/-- A slice whose first n elements are structs of m numbers, l. -/
structure RdM (m : Nat) (w : World) (a : Option Addr) (n c : Nat) (l : List (List Int)) : Prop where
  len : l.length = n
  le : n ≤ c
  max : c ≤ maxLen
  hnil : a = none → c = 0
  pl : 0 < n → ∃ b off, a = some ⟨b, off, none⟩ ∧ b < w.heap.size ∧ ∀ j y, l[j]? = some y → ∀ i z, y[i]? = some z → w.cell? ⟨b, off + (j * m + i), none⟩ = some (.int .i64 z)
  size : ∀ y ∈ l, y.length = m

theorem RdM.on {m : Nat} {w u : World} {a : Option Addr} {n c : Nat} {l : List (List Int)} (h : RdM m w a n c l) (hb : Below w.heap.size w u) : RdM m u a n c l :=
  ⟨h.len, h.le, h.max, h.hnil, fun hn => by
    obtain ⟨b, off, e, h1, h2⟩ := h.pl hn
    exact ⟨b, off, e, Nat.lt_of_lt_of_le h1 hb.size, fun j y hy i z hz => by rw [hb.cell h1]; exact h2 j y hy i z hz⟩, h.size⟩
theorem RdM.kp {m : Nat} {w u : World} {a : Option Addr} {n c : Nat} {l : List (List Int)} (h : RdM m w a n c l) {X : List Nat} (hb : Kp X w u) (hX : ∀ x, a = some x → 0 < n → x.block ∉ X) : RdM m u a n c l :=
  ⟨h.len, h.le, h.max, h.hnil, fun hn => by
    obtain ⟨b, off, e, h1, h2⟩ := h.pl hn
    exact ⟨b, off, e, Nat.lt_of_lt_of_le h1 hb.size, fun j y hy i z hz => hb.cell (h2 j y hy i z hz) (hX ⟨b, off, none⟩ e hn)⟩, h.size⟩
theorem RdM.nil (m : Nat) (w : World) : RdM m w none 0 0 [] := ⟨rfl, Nat.le_refl _, Nat.zero_le _, fun _ => rfl, fun h => absurd h (by omega), by simp⟩
theorem RdM.small {m : Nat} {w : World} {a : Option Addr} {n c : Nat} {l : List (List Int)} (h : RdM m w a n c l) : n ≤ 9223372036854775807 ∧ c ≤ 9223372036854775807 := by
  have h1 := h.le
  have h2 := h.max
  simp only [maxLen] at h2
  omega
theorem RdM.drewN {m : Nat} {w : World} {a : Option Addr} {n c : Nat} {l : List (List Int)} (h : RdM m w a n c l) (q : Nat) : RdM m (w.drewN q) a n c l := h.on (below_drewN (Below.refl _ _) q)
theorem RdM.at_ {m : Nat} {w : World} {a : Option Addr} {n c : Nat} {l : List (List Int)} (h : RdM m w a n c l) {j : Nat} (hj : j < n) : ∃ b off y, a = some ⟨b, off, none⟩ ∧ b < w.heap.size ∧ l[j]? = some y ∧ y.length = m ∧ ∀ i z, y[i]? = some z → w.cell? ⟨b, off + (j * m + i), none⟩ = some (.int .i64 z) := by
  have hl := h.len
  obtain ⟨b, off, e, h1, h2⟩ := h.pl (by omega)
  have hr : l[j]? = some l[j] := List.getElem?_eq_getElem (by omega)
  exact ⟨b, off, _, e, h1, hr, h.size _ (List.mem_of_getElem? hr), h2 j _ hr⟩
theorem RdM.el1 {w : World} {a : Option Addr} {n c : Nat} {l : List (List Int)} (h : RdM 1 w a n c l) {j : Nat} (hj : j < n) : ∃ b off z0, a = some ⟨b, off, none⟩ ∧ b < w.heap.size ∧ l[j]? = some [z0] ∧ w.cell? ⟨b, off + j, none⟩ = some (.int .i64 z0) := by
  obtain ⟨b, off, y, e, h1, h2, h3, h4⟩ := h.at_ hj
  match y, h3 with
  | [z0], _ => exact ⟨b, off, z0, e, h1, h2, by simpa using h4 0 z0 rfl⟩
theorem RdM.el3 {w : World} {a : Option Addr} {n c : Nat} {l : List (List Int)} (h : RdM 3 w a n c l) {j : Nat} (hj : j < n) : ∃ b off z0 z1 z2, a = some ⟨b, off, none⟩ ∧ b < w.heap.size ∧ l[j]? = some [z0, z1, z2] ∧ w.cell? ⟨b, off + j * 3, none⟩ = some (.int .i64 z0) ∧ w.cell? ⟨b, off + j * 3 + 1, none⟩ = some (.int .i64 z1) ∧ w.cell? ⟨b, off + j * 3 + 2, none⟩ = some (.int .i64 z2) := by
  obtain ⟨b, off, y, e, h1, h2, h3, h4⟩ := h.at_ hj
  match y, h3 with
  | [z0, z1, z2], _ => exact ⟨b, off, z0, z1, z2, e, h1, h2, by simpa using h4 0 z0 rfl, by simpa [Nat.add_assoc] using h4 1 z1 rfl, by simpa [Nat.add_assoc] using h4 2 z2 rfl⟩
theorem RdM.el4 {w : World} {a : Option Addr} {n c : Nat} {l : List (List Int)} (h : RdM 4 w a n c l) {j : Nat} (hj : j < n) : ∃ b off z0 z1 z2 z3, a = some ⟨b, off, none⟩ ∧ b < w.heap.size ∧ l[j]? = some [z0, z1, z2, z3] ∧ w.cell? ⟨b, off + j * 4, none⟩ = some (.int .i64 z0) ∧ w.cell? ⟨b, off + j * 4 + 1, none⟩ = some (.int .i64 z1) ∧ w.cell? ⟨b, off + j * 4 + 2, none⟩ = some (.int .i64 z2) ∧ w.cell? ⟨b, off + j * 4 + 3, none⟩ = some (.int .i64 z3) := by
  obtain ⟨b, off, y, e, h1, h2, h3, h4⟩ := h.at_ hj
  match y, h3 with
  | [z0, z1, z2, z3], _ => exact ⟨b, off, z0, z1, z2, z3, e, h1, h2, by simpa using h4 0 z0 rfl, by simpa [Nat.add_assoc] using h4 1 z1 rfl, by simpa [Nat.add_assoc] using h4 2 z2 rfl, by simpa [Nat.add_assoc] using h4 3 z3 rfl⟩

theorem rdm_of_rdn {m : Nat} (hm : 0 < m) {w : World} {a : Option Addr} {n c : Nat} {l : List (List Int)} (h : RdN m w a n c l) : RdM m w a n c l := by
  refine ⟨h.len, h.le, h.max, h.hnil, fun hn => ?_, h.size⟩
  obtain ⟨b, off, y, e, h1, _⟩ := h.at_ hm 0 hn
  refine ⟨b, off, e, h1, fun j y hy i z hz => ?_⟩
  have := h.cells _ e j y hy i z hz
  rwa [Go.WideShapes.add_plain] at this

/-- Such structs' cells. -/
def mcs (l : List (List Int)) : List Value := l.flatMap fun y => y.map (Value.int .i64)
theorem mcs_nil : mcs [] = [] := rfl
theorem mcs_cons (y : List Int) (l : List (List Int)) : mcs (y :: l) = y.map (Value.int .i64) ++ mcs l := rfl
theorem mcs_append (a b : List (List Int)) : mcs (a ++ b) = mcs a ++ mcs b := by simp [mcs]
theorem mcs_length {m : Nat} {l : List (List Int)} (h : ∀ y ∈ l, y.length = m) : (mcs l).length = l.length * m := by
  induction l with
  | nil => simp [mcs]
  | cons y l ih =>
    rw [mcs_cons, List.length_append, List.length_map, ih fun z hz => h z (by simp [hz]), h y (by simp), List.length_cons, Nat.add_mul, Nat.one_mul, Nat.add_comm]
theorem mcs_one (l : List (List Int)) : ∀ u ∈ mcs l, u.oneCell' = true := by
  intro u hu
  obtain ⟨x, _, hx⟩ := List.mem_flatMap.1 hu
  obtain ⟨z, _, rfl⟩ := List.mem_map.1 hx
  rfl
theorem mcs_at {m : Nat} {l : List (List Int)} (h : ∀ y ∈ l, y.length = m) {j : Nat} {y : List Int} (hj : l[j]? = some y) {i : Nat} {z : Int} (hi : y[i]? = some z) : (mcs l)[j * m + i]? = some (.int .i64 z) := by
  induction l generalizing j with
  | nil => simp at hj
  | cons x l ih =>
    have hx := h x (by simp)
    rw [mcs_cons]
    cases j with
    | zero =>
      simp only [List.getElem?_cons_zero, Option.some.injEq] at hj
      subst hj
      have : i < x.length := (List.getElem?_eq_some_iff.1 hi).1
      rw [Nat.zero_mul, Nat.zero_add, List.getElem?_append_left (by simpa using this), List.getElem?_map, hi]
      rfl
    | succ j =>
      rw [List.getElem?_append_right (by rw [List.length_map, hx, Nat.succ_mul]; omega), List.length_map, hx, show (j + 1) * m + i - m = j * m + i by rw [Nat.succ_mul]; omega]
      exact ih (fun z hz => h z (by simp [hz])) (by simpa using hj)
theorem mcs_inv {m : Nat} {l : List (List Int)} (h : ∀ y ∈ l, y.length = m) {k : Nat} {u : Value} (hu : (mcs l)[k]? = some u) : ∃ j i y z, k = j * m + i ∧ l[j]? = some y ∧ y[i]? = some z ∧ u = .int .i64 z := by
  have hk : k < l.length * m := by
    rw [← mcs_length h]
    exact (List.getElem?_eq_some_iff.1 hu).1
  have hm : 0 < m := by
    rcases Nat.eq_zero_or_pos m with h0 | h0
    · rw [h0] at hk; omega
    · exact h0
  have hj : k / m < l.length := by rw [Nat.div_lt_iff_lt_mul hm]; exact hk
  have e1 : l[k / m]? = some l[k / m] := List.getElem?_eq_getElem hj
  have hl := h _ (List.mem_of_getElem? e1)
  have e2 : l[k / m][k % m]? = some (l[k / m][k % m]'(by rw [hl]; exact Nat.mod_lt _ hm)) := List.getElem?_eq_getElem _
  have e3 : k = k / m * m + k % m := by rw [Nat.mul_comm]; exact (Nat.div_add_mod k m).symm
  refine ⟨k / m, k % m, _, _, e3, e1, e2, ?_⟩
  have := mcs_at h e1 e2
  rw [← e3, hu] at this
  simpa using this

/-- What is appended by 'append(x, l...)'. -/
theorem RdM.src {P : Program} {m : Nat} {w : World} {a : Option Addr} {n c : Nat} {l : List (List Int)} (h : RdM m w a n c l) {t e : TypeId} (ht : P.underlying t = some (.slice e)) : Src P m t (.slice a n c) n (mcs l) w := by
  have h3 := h.len
  cases a with
  | none =>
    have h1 := h.hnil rfl
    have h2 := h.le
    obtain rfl : n = 0 := by omega
    obtain rfl : l = [] := List.eq_nil_of_length_eq_zero h3
    exact Src.ofNil w ht c
  | some x =>
    refine Src.ofSlice w ht x n c (mcs l) (by rw [mcs_length h.size, h3]) (fun j u hu => ?_) (mcs_one l)
    rcases Nat.eq_zero_or_pos n with h0 | h0
    · obtain rfl : l = [] := List.eq_nil_of_length_eq_zero (by omega)
      simp [mcs] at hu
    · obtain ⟨b, off, e1, _, h2⟩ := h.pl h0
      cases e1
      rw [Go.WideShapes.add_plain]
      obtain ⟨p, q, y, z, rfl, hp, hq, rfl⟩ := mcs_inv h.size hu
      exact h2 p y hp q z hq

/-- A row of the call's own: m cells an element, of the type e; the call began in w. -/
structure OwM (m e : Nat) (w u : World) (v : Value) (l : List (List Int)) : Prop where
  own : u.ownsRow w.heap.size e m v l.length (mcs l)
  bel : Below w.heap.size w u
  size : ∀ y ∈ l, y.length = m
theorem OwM.on {m e : Nat} {w u u' : World} {v : Value} {l : List (List Int)} (h : OwM m e w u v l) (hb : Below u.heap.size u u') : OwM m e w u' v l := ⟨ownsRow_below h.own hb, Below.on h.bel hb, h.size⟩
theorem OwM.base {m e : Nat} {w w0 u : World} {v : Value} {l : List (List Int)} (h : OwM m e w u v l) (hb : Below w0.heap.size w0 w) : OwM m e w0 u v l := ⟨ownsRow_low h.own hb.size, Below.on hb h.bel, h.size⟩
theorem OwM.nil (m e : Nat) (w : World) : OwM m e w w (.slice none 0 0) [] := ⟨World.ownsRow_nil _ _ _ _, Below.refl _ _, by simp⟩
theorem OwM.grown {m e : Nat} {w u u' : World} {v v' : Value} {l k : List (List Int)} (h : OwM m e w u v l) (hk : ∀ y ∈ k, y.length = m) (o2 : u'.ownsRow w.heap.size e m v' (l.length + k.length) (mcs l ++ mcs k)) (g : u.grownBy u' v.ownBlock) : OwM m e w u' v' (l ++ k) :=
  ⟨by rw [List.length_append, mcs_append]; exact o2, h.bel.grown g h.bel.size (fun k hk => (h.own.lt k hk).1), fun y hy => by
    rcases List.mem_append.1 hy with hy | hy
    · exact h.size y hy
    · exact hk y hy⟩
theorem OwM.rd {m e : Nat} {w u : World} {v : Value} {l : List (List Int)} (h : OwM m e w u v l) : ∃ a c, v = .slice a l.length c ∧ RdM m u a l.length c l ∧ ∀ x, a = some x → w.heap.size ≤ x.block ∧ x.block < u.heap.size := by
  rcases h.own.2 with ⟨rfl, h0⟩ | ⟨g, cap, cur, rfl, hb, hg, hn, hm, _, _⟩
  · have hl := List.eq_nil_of_length_eq_zero h0
    subst hl
    exact ⟨none, 0, rfl, RdM.nil m u, fun x hx => by cases hx⟩
  · refine ⟨some ⟨g, 0, none⟩, cap, rfl, ⟨rfl, hn, hm, (fun h => by cases h), fun _ => ⟨g, 0, rfl, (h.own.lt g rfl).2, fun j y hy i z hz => ?_⟩, h.size⟩, fun x hx => ?_⟩
    · have hlt : j * m + i < l.length * m := by
        rw [← mcs_length h.size]
        exact (List.getElem?_eq_some_iff.1 (mcs_at h.size hy hz)).1
      rw [Nat.zero_add, h.own.cellAt _ hlt]
      exact mcs_at h.size hy hz
    · cases hx
      exact ⟨hb, (Array.getElem?_eq_some_iff.1 hg).1⟩

/-- A child's ID. -/
def hd (y : List Int) : Int := y.getD 0 0
theorem hd3 (a b c : Int) : hd [a, b, c] = a := rfl
/-- Where the first one of an ID stands. -/
def ixf (k : Int) : List (List Int) → Option Nat
  | [] => none
  | x :: l => if hd x = k then some 0 else (ixf k l).map (· + 1)
def ixI (k : Int) (l : List (List Int)) : Int := match ixf k l with
  | some i => i
  | none => -1
/-- A child put. -/
def put1 : List (List Int) → List Int → List (List Int)
  | [], c => [c]
  | x :: l, c => if hd x = hd c then c :: l else x :: put1 l c
def puts (l m : List (List Int)) : List (List Int) := m.foldl put1 l
/-- A child found. -/
def fnd (k : Int) : List (List Int) → Option (List Int)
  | [] => none
  | x :: l => if hd x = k then some x else fnd k l

theorem drop_at' {α : Type} {l : List α} {j : Nat} {x : α} (h : l[j]? = some x) : l.drop j = x :: l.drop (j + 1) := by
  obtain ⟨hj, rfl⟩ := List.getElem?_eq_some_iff.1 h
  exact List.drop_eq_getElem_cons hj
theorem ixf_drop {k : Int} {l : List (List Int)} : ∀ {j : Nat}, (∀ i y, i < j → l[i]? = some y → hd y ≠ k) → ixf k l = (ixf k (l.drop j)).map (· + j)
  | 0, _ => by simp
  | j + 1, h => by
    rw [ixf_drop (j := j) fun i y hi hy => h i y (by omega) hy]
    cases hd' : l[j]? with
    | none =>
      have : l.length ≤ j := List.getElem?_eq_none_iff.1 hd'
      rw [List.drop_eq_nil_of_le this, List.drop_eq_nil_of_le (by omega)]
      rfl
    | some y =>
      rw [drop_at' hd', ixf, if_neg (h j y (by omega) hd')]
      cases ixf k (l.drop (j + 1)) with
      | none => rfl
      | some i => simp; omega
theorem ixf_none {k : Int} : ∀ {l : List (List Int)}, ixf k l = none → (∀ y ∈ l, hd y ≠ k) ∧ fnd k l = none
  | [], _ => ⟨by simp, rfl⟩
  | x :: l, h => by
    rw [ixf] at h
    split at h
    · cases h
    · rename_i hx
      obtain ⟨h1, h2⟩ := ixf_none (l := l) (by simpa using h)
      refine ⟨fun y hy => ?_, by rw [fnd, if_neg hx, h2]⟩
      rcases List.mem_cons.1 hy with rfl | hy
      · exact hx
      · exact h1 y hy
theorem ixf_some {k : Int} : ∀ {l : List (List Int)} {i : Nat}, ixf k l = some i → i < l.length ∧ fnd k l = l[i]? ∧ ∀ c, hd c = k → put1 l c = l.set i c
  | [], _, h => by cases h
  | x :: l, i, h => by
    rw [ixf] at h
    split at h
    · rename_i hx
      cases h
      refine ⟨by simp, by rw [fnd, if_pos hx]; rfl, fun c hc => ?_⟩
      rw [put1, if_pos (by rw [hx, hc])]
      rfl
    · rename_i hx
      obtain ⟨m, hm, rfl⟩ := Option.map_eq_some_iff.1 h
      obtain ⟨h1, h2, h3⟩ := ixf_some hm
      refine ⟨by simpa using h1, by rw [fnd, if_neg hx, h2]; rfl, fun c hc => ?_⟩
      rw [put1, if_neg (by rw [hc]; exact hx), h3 c hc]
      rfl
theorem put1_none {l : List (List Int)} {c : List Int} (h : ∀ y ∈ l, hd y ≠ hd c) : put1 l c = l ++ [c] := by
  induction l with
  | nil => rfl
  | cons x l ih =>
    rw [put1, if_neg (h x (by simp)), ih fun y hy => h y (by simp [hy])]
    rfl
theorem put1_length {l : List (List Int)} {c : List Int} : l.length ≤ (put1 l c).length ∧ (put1 l c).length ≤ l.length + 1 := by
  induction l with
  | nil => simp [put1]
  | cons x l ih =>
    rw [put1]
    split
    · simp
    · simp only [List.length_cons]; omega
theorem put1_size {m : Nat} {l : List (List Int)} {c : List Int} (h : ∀ y ∈ l, y.length = m) (hc : c.length = m) : ∀ y ∈ put1 l c, y.length = m := by
  induction l with
  | nil => intro y hy; simp [put1] at hy; rw [hy]; exact hc
  | cons x l ih =>
    intro y hy
    rw [put1] at hy
    split at hy
    · rcases List.mem_cons.1 hy with rfl | hy
      · exact hc
      · exact h y (by simp [hy])
    · rcases List.mem_cons.1 hy with rfl | hy
      · exact h y (by simp)
      · exact ih (fun z hz => h z (by simp [hz])) y hy
theorem fnd_put1 (l : List (List Int)) (c : List Int) : fnd (hd c) (put1 l c) = some c := by
  induction l with
  | nil => simp [put1, fnd]
  | cons x l ih =>
    rw [put1]
    split
    · rw [fnd, if_pos rfl]
    · rename_i hx
      rw [fnd, if_neg hx, ih]
theorem fnd_other {k : Int} (l : List (List Int)) (c : List Int) (h : k ≠ hd c) : fnd k (put1 l c) = fnd k l := by
  induction l with
  | nil => simp [put1, fnd, Ne.symm h]
  | cons x l ih =>
    rw [put1]
    split
    · rename_i hx
      rw [fnd, fnd, if_neg (Ne.symm h), if_neg (by rw [hx]; exact Ne.symm h)]
    · rw [fnd, fnd, ih]
theorem puts_nil (l : List (List Int)) : puts l [] = l := rfl
theorem puts_snoc (l m : List (List Int)) (c : List Int) : puts l (m ++ [c]) = put1 (puts l m) c := by simp [puts]
theorem puts_cons (l m : List (List Int)) (c : List Int) : puts l (c :: m) = puts (put1 l c) m := rfl
theorem puts_length (l m : List (List Int)) : (puts l m).length ≤ l.length + m.length := by
  induction m generalizing l with
  | nil => simp [puts]
  | cons c m ih =>
    have h1 := ih (put1 l c)
    have h2 := (put1_length (l := l) (c := c)).2
    rw [puts_cons]
    simp only [List.length_cons]
    omega
theorem puts_size {m : Nat} {l k : List (List Int)} (h : ∀ y ∈ l, y.length = m) (hk : ∀ y ∈ k, y.length = m) : ∀ y ∈ puts l k, y.length = m := by
  induction k generalizing l with
  | nil => exact h
  | cons c k ih => exact ih (put1_size h (hk c (by simp))) (fun y hy => hk y (by simp [hy]))

/-- No child stands twice. -/
def Onc (l : List (List Int)) : Prop := l.Pairwise fun x y => hd x ≠ hd y
theorem put1_put1 (l : List (List Int)) {x c : List Int} (h : hd x = hd c) : put1 (put1 l x) c = put1 l c := by
  induction l with
  | nil => simp [put1, h]
  | cons y l ih =>
    by_cases hy : hd y = hd x
    · rw [put1, if_pos hy, put1, if_pos h, put1, if_pos (by rw [hy, h])]
    · rw [put1, if_neg hy, put1, if_neg (by rw [← h]; exact hy), put1, if_neg (by rw [← h]; exact hy), ih]
/-- It is there already. -/
def Thr (k : Int) (l : List (List Int)) : Prop := ∃ y ∈ l, hd y = k
theorem thr_put1 {k : Int} {l : List (List Int)} (c : List Int) (h : Thr k l) : Thr k (put1 l c) := by
  induction l with
  | nil => obtain ⟨y, hy, _⟩ := h; simp at hy
  | cons x l ih =>
    rw [put1]
    obtain ⟨y, hy, hk⟩ := h
    split
    · rename_i hx
      rcases List.mem_cons.1 hy with rfl | hy
      · exact ⟨c, by simp, by rw [← hx, hk]⟩
      · exact ⟨y, by simp [hy], hk⟩
    · rcases List.mem_cons.1 hy with rfl | hy
      · exact ⟨y, by simp, hk⟩
      · obtain ⟨z, hz, e⟩ := ih ⟨y, hy, hk⟩
        exact ⟨z, by simp [hz], e⟩
theorem thr_self (l : List (List Int)) (c : List Int) : Thr (hd c) (put1 l c) := by
  induction l with
  | nil => exact ⟨c, by simp [put1], rfl⟩
  | cons x l ih =>
    rw [put1]
    split
    · exact ⟨c, by simp, rfl⟩
    · obtain ⟨z, hz, e⟩ := ih
      exact ⟨z, by simp [hz], e⟩
theorem put1_comm {l : List (List Int)} {x c : List Int} (h : hd x ≠ hd c) (ht : Thr (hd c) l) : put1 (put1 l x) c = put1 (put1 l c) x := by
  induction l with
  | nil => obtain ⟨y, hy, _⟩ := ht; simp at hy
  | cons y l ih =>
    by_cases h1 : hd y = hd x
    · have h2 : hd y ≠ hd c := by rw [h1]; exact h
      rw [put1, if_pos h1, put1, if_neg h, put1, if_neg h2, put1, if_pos h1]
    · by_cases h2 : hd y = hd c
      · rw [put1, if_neg h1, put1, if_pos h2, put1, if_pos h2, put1, if_neg (Ne.symm h)]
      · rw [put1, if_neg h1, put1, if_neg h2, put1, if_neg h2, put1, if_neg h1, ih]
        obtain ⟨z, hz, e⟩ := ht
        rcases List.mem_cons.1 hz with rfl | hz
        · exact absurd e h2
        · exact ⟨z, hz, e⟩
theorem put1_puts {a : List (List Int)} : ∀ {l : List (List Int)} {c : List Int}, (∀ y ∈ a, hd y ≠ hd c) → Thr (hd c) l → put1 (puts l a) c = puts (put1 l c) a := by
  induction a with
  | nil => intros; rfl
  | cons x a ih =>
    intro l c h ht
    rw [puts_cons, puts_cons, ih (fun y hy => h y (by simp [hy])) (thr_put1 x ht), put1_comm (h x (by simp)) ht]
theorem puts_put1 {a : List (List Int)} : ∀ {l : List (List Int)} {c : List Int}, Onc a → puts l (put1 a c) = put1 (puts l a) c := by
  induction a with
  | nil => intros; rfl
  | cons x a ih =>
    intro l c h
    obtain ⟨h1, h2⟩ := List.pairwise_cons.1 h
    by_cases hx : hd x = hd c
    · rw [put1, if_pos hx, puts_cons, puts_cons, put1_puts (fun y hy => by rw [← hx]; exact Ne.symm (h1 y hy)) (by rw [← hx]; exact thr_self l x), put1_put1 l hx]
    · rw [put1, if_neg hx, puts_cons, puts_cons, ih h2]
theorem mem_put1 {l : List (List Int)} {c y : List Int} (h : y ∈ put1 l c) : y = c ∨ y ∈ l := by
  induction l with
  | nil => simp [put1] at h; exact .inl h
  | cons x l ih =>
    rw [put1] at h
    split at h
    · rcases List.mem_cons.1 h with rfl | h
      · exact .inl rfl
      · exact .inr (by simp [h])
    · rcases List.mem_cons.1 h with rfl | h
      · exact .inr (by simp)
      · rcases ih h with e | e
        · exact .inl e
        · exact .inr (by simp [e])
theorem onc_put1 {l : List (List Int)} (c : List Int) (h : Onc l) : Onc (put1 l c) := by
  induction l with
  | nil => simp [put1, Onc]
  | cons x l ih =>
    obtain ⟨h1, h2⟩ := List.pairwise_cons.1 h
    rw [put1]
    split
    · rename_i hx
      exact List.pairwise_cons.2 ⟨fun y hy => by rw [← hx]; exact h1 y hy, h2⟩
    · rename_i hx
      refine List.pairwise_cons.2 ⟨fun y hy => ?_, ih h2⟩
      rcases mem_put1 hy with rfl | hy
      · exact hx
      · exact h1 y hy
theorem puts_puts {b : List (List Int)} : ∀ {l a : List (List Int)}, Onc a → puts l (puts a b) = puts (puts l a) b := by
  induction b with
  | nil => intros; rfl
  | cons c b ih =>
    intro l a h
    rw [puts_cons, puts_cons, ih (onc_put1 c h), puts_put1 h]
/-- Each put anew, in a list of itself: it is that list, where none stands twice. -/
theorem puts_self_nil {a : List (List Int)} (h : Onc a) : puts [] a = a := by
  suffices H : ∀ (p a : List (List Int)), Onc (p ++ a) → puts p a = p ++ a from H [] a h
  intro p a
  induction a generalizing p with
  | nil => intro _; simp [puts]
  | cons c a ih =>
    intro h
    have hn : ∀ y ∈ p, hd y ≠ hd c := fun y hy => (List.pairwise_append.1 h).2.2 y hy c (by simp)
    rw [puts_cons, put1_none hn, ih _ (by simpa using h)]
    simp

/-- What a surface has, or is to have. -/
structure Sq where
  at_ : Bool
  buf : Int
  dm : List (List Int)
  fr : List (List Int)
  inp : Bool
  all : Bool
  rg : List (List Int)
  ord : Bool
  od : List (List Int)
  pl : List (List Int)

def mrg (a b : Sq) : Sq := ⟨a.at_ || b.at_, bif b.at_ then b.buf else a.buf, a.dm ++ b.dm, a.fr ++ b.fr, a.inp || b.inp, bif b.inp then b.all else a.all, bif b.inp then b.rg else a.rg, a.ord || b.ord, bif b.ord then b.od else a.od, puts a.pl b.pl⟩
def apl (a b : Sq) : Sq := { mrg a b with at_ := false, inp := false, ord := false, dm := [] }
def non (s : Sq) : Bool := !s.at_ && (!s.inp && (!s.ord && (s.dm.isEmpty && (s.fr.isEmpty && s.pl.isEmpty))))
def few (s : Sq) : Bool := decide (s.dm.length ≤ 60) && (decide (s.fr.length ≤ 60) && (decide (s.rg.length ≤ 60) && (decide (s.od.length ≤ 60) && decide (s.pl.length ≤ 60))))
def sq0 : Sq := ⟨false, 0, [], [], false, false, [], false, [], []⟩
theorem mrg_buf (a b : Sq) (n : Sq) : (mrg (mrg n a) b).buf = (mrg n (mrg a b)).buf := by
  simp only [mrg]
  cases a.at_ <;> cases b.at_ <;> rfl
theorem mrg_od (a b : Sq) (n : Sq) : (mrg (mrg n a) b).od = (mrg n (mrg a b)).od := by
  simp only [mrg]
  cases a.ord <;> cases b.ord <;> rfl
theorem apl_mrg {n a b : Sq} (h : Onc a.pl) : apl n (mrg a b) = apl (apl n a) b := by
  simp only [apl, mrg, List.append_assoc, puts_puts h]
  congr 1
  · cases a.at_ <;> cases b.at_ <;> rfl
  · cases a.inp <;> cases b.inp <;> rfl
  · cases a.inp <;> cases b.inp <;> rfl
  · cases a.ord <;> cases b.ord <;> rfl
theorem apl_sq0 (n : Sq) : apl n sq0 = { n with at_ := false, inp := false, ord := false, dm := [] } := by
  simp [apl, mrg, sq0, puts_nil]
theorem apl_apl_sq0 (n : Sq) : apl (apl n sq0) sq0 = apl n sq0 := by simp [apl_sq0]
end Go.Proofs.YtdgknofpkafppaaDoor

/- Slices of whole numbers (int), read and of a call's own: cut, joined, made, compared. Over any program that has []int. -/
namespace Go.Proofs.YtdgknofpkafppaaDoor
open Go Go.RowKit

/-- Numbers as cells. -/
def ic (l : List Int) : List Value := l.map (Value.int .i64)
theorem ic_length (l : List Int) : (ic l).length = l.length := by simp [ic]
theorem ic_append (a b : List Int) : ic (a ++ b) = ic a ++ ic b := by simp [ic]
theorem ic_one (l : List Int) : ∀ u ∈ ic l, u.oneCell' = true := by
  intro u hu
  obtain ⟨_, _, rfl⟩ := List.mem_map.1 hu
  rfl
theorem ic_inv {l : List Int} {j : Nat} {u : Value} (h : (ic l)[j]? = some u) : ∃ z, l[j]? = some z ∧ u = .int .i64 z := by
  rw [ic, List.getElem?_map] at h
  obtain ⟨z, hz, rfl⟩ := Option.map_eq_some_iff.1 h
  exact ⟨z, hz, rfl⟩

/-- A slice whose first n cells are the numbers l. -/
structure Rz (w : World) (a : Option Addr) (n c : Nat) (l : List Int) : Prop where
  len : l.length = n
  le : n ≤ c
  max : c ≤ maxLen
  hnil : a = none → c = 0
  pl : 0 < n → ∃ b off, a = some ⟨b, off, none⟩ ∧ b < w.heap.size ∧ ∀ j z, l[j]? = some z → w.cell? ⟨b, off + j, none⟩ = some (.int .i64 z)

theorem Rz.on {w u : World} {a : Option Addr} {n c : Nat} {l : List Int} (h : Rz w a n c l) (hb : Below w.heap.size w u) : Rz u a n c l :=
  ⟨h.len, h.le, h.max, h.hnil, fun hn => by
    obtain ⟨b, off, e, h1, h2⟩ := h.pl hn
    exact ⟨b, off, e, Nat.lt_of_lt_of_le h1 hb.size, fun j z hz => by rw [hb.cell h1]; exact h2 j z hz⟩⟩
theorem Rz.drewN {w : World} {a : Option Addr} {n c : Nat} {l : List Int} (h : Rz w a n c l) (q : Nat) : Rz (w.drewN q) a n c l := h.on (below_drewN (Below.refl _ _) q)
theorem Rz.nil (w : World) : Rz w none 0 0 [] := ⟨rfl, Nat.le_refl _, Nat.zero_le _, fun _ => rfl, fun h => absurd h (by omega)⟩
theorem Rz.small {w : World} {a : Option Addr} {n c : Nat} {l : List Int} (h : Rz w a n c l) : n ≤ 9223372036854775807 ∧ c ≤ 9223372036854775807 := by
  have h1 := h.le
  have h2 := h.max
  simp only [maxLen] at h2
  omega
theorem Rz.at_ {w : World} {a : Option Addr} {n c : Nat} {l : List Int} (h : Rz w a n c l) {j : Nat} (hj : j < n) : ∃ b off z, a = some ⟨b, off, none⟩ ∧ b < w.heap.size ∧ l[j]? = some z ∧ w.cell? ⟨b, off + j, none⟩ = some (.int .i64 z) := by
  have hl := h.len
  obtain ⟨b, off, e, h1, h2⟩ := h.pl (by omega)
  have hr : l[j]? = some l[j] := List.getElem?_eq_getElem (by omega)
  exact ⟨b, off, _, e, h1, hr, h2 j _ hr⟩
/-- 'l[:k]'. -/
theorem Rz.take {w : World} {a : Option Addr} {n c : Nat} {l : List Int} (h : Rz w a n c l) (k : Nat) (hk : k ≤ n) : Rz w a k c (l.take k) :=
  ⟨by rw [List.length_take, h.len]; omega, Nat.le_trans hk h.le, h.max, h.hnil, fun h0 => by
    obtain ⟨b, off, e, h1, h2⟩ := h.pl (by omega)
    refine ⟨b, off, e, h1, fun j z hz => h2 j z ?_⟩
    rw [List.getElem?_take] at hz
    split at hz
    · exact hz
    · cases hz⟩
/-- 'l[k:]', where something is left of the room. -/
theorem Rz.drop {w : World} {b off : Nat} {n c : Nat} {l : List Int} (h : Rz w (some ⟨b, off, none⟩) n c l) (k : Nat) (hk : k ≤ n) : Rz w (some ⟨b, off + k, none⟩) (n - k) (c - k) (l.drop k) :=
  ⟨by rw [List.length_drop, h.len], by have := h.le; omega, by have := h.max; omega, (fun h => by cases h), fun h0 => by
    obtain ⟨b', off', e, h1, h2⟩ := h.pl (by omega)
    cases e
    refine ⟨b, off + k, rfl, h1, fun j z hz => ?_⟩
    rw [List.getElem?_drop] at hz
    rw [Nat.add_assoc]
    exact h2 (k + j) z hz⟩
theorem Rz.zero (w : World) (a : Option Addr) : Rz w a 0 0 [] := ⟨rfl, Nat.le_refl _, Nat.zero_le _, fun _ => rfl, fun h => absurd h (by omega)⟩
theorem rz_of_rdi {w : World} {a : Option Addr} {n c : Nat} {l : List Int} (h : RdI .i64 w a n c l) : Rz w a n c l :=
  ⟨h.len, h.le, h.max, h.hnil, fun hn => by
    obtain ⟨b, off, e, h1, h2⟩ := h.plain hn
    refine ⟨b, off, e, h1, fun j z hz => ?_⟩
    rw [h2 j (List.getElem?_eq_some_iff.1 hz).1, List.getD, hz]
    rfl⟩

/-- What is appended by 'append(x, l...)'. -/
theorem Rz.src {P : Program} {w : World} {a : Option Addr} {n c : Nat} {l : List Int} (h : Rz w a n c l) {t e : TypeId} (ht : P.underlying t = some (.slice e)) : Src P 1 t (.slice a n c) n (ic l) w := by
  have h3 := h.len
  cases a with
  | none =>
    have h1 := h.hnil rfl
    have h2 := h.le
    obtain rfl : n = 0 := by omega
    obtain rfl : l = [] := List.eq_nil_of_length_eq_zero h3
    exact Src.ofNil w ht c
  | some x =>
    refine Src.ofSlice w ht x n c (ic l) (by rw [ic_length, h3, Nat.mul_one]) (fun j u hu => ?_) (ic_one l)
    obtain ⟨z, hz, rfl⟩ := ic_inv hu
    have hj := (List.getElem?_eq_some_iff.1 hz).1
    obtain ⟨b, off, e1, _, h2⟩ := h.pl (by omega)
    cases e1
    rw [Go.WideShapes.add_plain]
    exact h2 j z hz
/-- What is copied. -/
theorem Rz.copies {w : World} {a : Option Addr} {n c : Nat} {l : List Int} (h : Rz w a n c l) : 0 < (ic l).length → ∃ ad, a = some ad ∧ ∀ j v, (ic l)[j]? = some v → w.cell? (ad.add j) = some v := fun h0 => by
  rw [ic_length, h.len] at h0
  obtain ⟨b, off, e, _, h2⟩ := h.pl h0
  refine ⟨_, e, fun j v hv => ?_⟩
  obtain ⟨z, hz, rfl⟩ := ic_inv hv
  rw [Go.WideShapes.add_plain]
  exact h2 j z hz

/-- A row of numbers of the call's own; the call began in w. -/
structure OwZ (w u : World) (v : Value) (l : List Int) : Prop where
  own : u.ownsRow w.heap.size 3 1 v l.length (ic l)
  bel : Below w.heap.size w u
theorem OwZ.on {w u u' : World} {v : Value} {l : List Int} (h : OwZ w u v l) (hb : Below u.heap.size u u') : OwZ w u' v l := ⟨ownsRow_below h.own hb, Below.on h.bel hb⟩
theorem OwZ.base {w w0 u : World} {v : Value} {l : List Int} (h : OwZ w u v l) (hb : Below w0.heap.size w0 w) : OwZ w0 u v l := ⟨ownsRow_low h.own hb.size, Below.on hb h.bel⟩
theorem OwZ.nil (w : World) : OwZ w w (.slice none 0 0) [] := ⟨World.ownsRow_nil _ _ _ _, Below.refl _ _⟩
theorem OwZ.grown {w u u' : World} {v v' : Value} {l k : List Int} {m : Nat} (h : OwZ w u v l) (hm : k.length = m) (o2 : u'.ownsRow w.heap.size 3 1 v' (l.length + m) (ic l ++ ic k)) (g : u.grownBy u' v.ownBlock) : OwZ w u' v' (l ++ k) :=
  ⟨by rw [List.length_append, ic_append, hm]; exact o2, h.bel.grown g h.bel.size (fun k hk => (h.own.lt k hk).1)⟩
theorem OwZ.rd {w u : World} {v : Value} {l : List Int} (h : OwZ w u v l) : ∃ a c, v = .slice a l.length c ∧ Rz u a l.length c l ∧ ∀ x, a = some x → w.heap.size ≤ x.block ∧ x.block < u.heap.size := by
  rcases h.own.2 with ⟨rfl, h0⟩ | ⟨g, cap, cur, rfl, hb, hg, hn, hm, _, _⟩
  · have hl := List.eq_nil_of_length_eq_zero h0
    subst hl
    exact ⟨none, 0, rfl, Rz.nil u, fun x hx => by cases hx⟩
  · refine ⟨some ⟨g, 0, none⟩, cap, rfl, ⟨rfl, hn, hm, (fun h => by cases h), fun _ => ⟨g, 0, rfl, (h.own.lt g rfl).2, fun j z hz => ?_⟩⟩, fun x hx => ?_⟩
    · have hj := (List.getElem?_eq_some_iff.1 hz).1
      rw [Nat.zero_add, h.own.cellAt _ (by omega), ic, List.getElem?_map, hz]
      rfl
    · cases hx
      exact ⟨hb, (Array.getElem?_eq_some_iff.1 hg).1⟩

theorem infoZ : (Tryd.prog.info? 3).map (fun i => (i.zero, i.size, i.bytes)) = some (some (.int .i64 0), 1, 8) := by kernel_rfl
theorem infoZp : ∃ i, Tryd.prog.info? 3 = some i ∧ i.zero = some (.int .i64 0) ∧ i.size = 1 ∧ i.bytes = 8 := by
  obtain ⟨i, h1, h2⟩ := Option.map_eq_some_iff.1 infoZ
  simp only [Prod.mk.injEq] at h2
  exact ⟨i, h1, h2.1, h2.2.1, h2.2.2⟩
theorem sizeZ : (Tryd.prog.info? 3).map (·.size) = some 1 := by
  obtain ⟨i, hi, _, h1, _⟩ := infoZp
  rw [hi]
  exact congrArg some h1
theorem fitsZ {need : Nat} (h : need ≤ 2000000000) : ∀ old, old < need → Builtin.nextslicecap need old * 8 ≤ 281474976710656 := fun old ho => by
  have := nextslicecap_near ho
  omega

/-- 'make([]int, n)': n noughts, in a block of its own. -/
theorem makeZ (w : World) (n : Nat) (hn : n ≤ 2000000000) : ∃ w1, (Instr.makeSlice 22 (.int .i64 (n : Int)) (.int .i64 (n : Int))).run Tryd.prog w = .ok (.slice (some ⟨w.heap.size, 0, none⟩) n n) w1 ∧ Below w.heap.size w w1 ∧ w1.heap[w.heap.size]? = some (.cells (ic (List.replicate n 0)).toArray 3 (0, 0)) := by
  obtain ⟨i0, hi, hz0, hz1, hz2⟩ := infoZp
  obtain ⟨w1, hmk, ho1, hg1⟩ := run_make_full (P := Tryd.prog) w w.heap.size 22 3 i0 (.int .i64 0) 1 Tryd.underlying22 hi hz0 hz1 .i64 .i64 n (by rw [hz2]; omega) (by simp only [maxLen]; omega) (Nat.le_refl _)
  refine ⟨w1, hmk, (Below.refl _ _).grown hg1 (Nat.le_refl _) (fun k hk => by cases hk), ?_⟩
  have e : (madeCells (Value.int .i64 0).cells (n * 1)).toList = ic (List.replicate n 0) := by
    rw [Nat.mul_one, ic, List.map_replicate]
    exact toList_madeCells_one _ n
  rw [e] at ho1
  rcases ho1.2 with ⟨h, _⟩ | ⟨g, cap, cur, hv, _, hg, _, _, hs, ht⟩
  · cases h
  · cases hv
    rw [hg, ← ht, List.take_of_length_le (by rw [Array.length_toList, hs]; omega)]
/-- 'make([]int, 0, n)'. -/
theorem make0Z (w : World) (n : Nat) (hn : n ≤ 2000000000) : ∃ w1, (Instr.makeSlice 22 (.int .i64 0) (.int .i64 (n : Int))).run Tryd.prog w = .ok (.slice (some ⟨w.heap.size, 0, none⟩) 0 n) w1 ∧ OwZ w w1 (.slice (some ⟨w.heap.size, 0, none⟩) 0 n) [] := by
  obtain ⟨i0, hi, hz0, hz1, hz2⟩ := infoZp
  have hr := run_make (P := Tryd.prog) w 22 3 i0 (.int .i64 0) Tryd.underlying22 hi hz0 .i64 .i64 0 n (by omega) (by omega) (by rw [hz2]; omega) (by omega)
  simp only [Int.toNat_natCast] at hr
  refine ⟨_, hr, ⟨⟨rfl, .inr ⟨w.heap.size, n, _, rfl, Nat.le_refl _, heap_alloc_new w _, Nat.zero_le _, by simp only [maxLen]; omega, by rw [size_madeCells, hz1], by rfl⟩⟩, (Below.refl _ _).alloc (Nat.le_refl _) _⟩⟩

theorem OwZ.alloc {w u : World} {v : Value} {l : List Int} (h : OwZ w u v l) (o : Obj) : OwZ w (u.alloc o) v l := h.on ((Below.refl _ _).alloc (Nat.le_refl _) _)
/-- A literal's row of one, as it is appended. -/
theorem srcLit (w : World) (z : Int) : Src Tryd.prog 1 22 (.slice (some ⟨w.heap.size, 0, none⟩) 1 1) 1 (ic [z]) (w.alloc (.cells #[.int .i64 z] 3)) :=
  Src.ofSlice (P := Tryd.prog) _ Tryd.underlying22 ⟨w.heap.size, 0, none⟩ 1 1 (ic [z]) rfl (fun q u hu => by
    match q, hu with
    | 0, hu => cases hu; simp [Addr.add]
    | q + 1, hu => simp [ic] at hu) (ic_one _)
/-- A literal's row. -/
theorem rz_lit {x : World} {g : Nat} {l : List Int} {fr : Nat × Nat} (h : x.heap[g]? = some (.cells (ic l).toArray 3 fr)) (hn : l.length ≤ maxLen) : Rz x (some ⟨g, 0, none⟩) l.length l.length l :=
  ⟨rfl, Nat.le_refl _, hn, (fun h => by cases h), fun _ => ⟨g, 0, rfl, (Array.getElem?_eq_some_iff.1 h).1, fun j z hz => by
    rw [Nat.zero_add, cell_of_row x g j _ _ _ h, List.getElem?_toArray, ic, List.getElem?_map, hz]
    rfl⟩⟩

theorem drop_atZ {α : Type} {l : List α} {j : Nat} {x : α} (h : l[j]? = some x) : l.drop j = x :: l.drop (j + 1) := by
  obtain ⟨hj, rfl⟩ := List.getElem?_eq_some_iff.1 h
  exact List.drop_eq_getElem_cons hj

/-- Whether two are the same. -/
def zeq (l m : List Int) : Bool := decide (l = m)
theorem zeq_cons (x y : Int) (l m : List Int) : zeq (x :: l) (y :: m) = ((x == y) && zeq l m) := by
  unfold zeq
  rw [Bool.eq_iff_iff]
  simp
theorem zeq_len {l m : List Int} (h : l.length ≠ m.length) : zeq l m = false := by
  unfold zeq
  rw [decide_eq_false_iff_not]
  intro e
  exact h (by rw [e])
theorem zeq_same (l : List Int) : zeq l l = true := decide_eq_true rfl
theorem zeq_of {l m : List Int} (h : l = m) : zeq l m = true := decide_eq_true h

set_option maxRecDepth 100000 in
set_option maxHeartbeats 1000000 in
theorem samez_any (a a' : Option Addr) (n c n' c' : Nat) (l m : List Int) (w : World) (h : Rz w a n c l) (h' : Rz w a' n' c' m) :
    Calls Tryd.prog 47 #[.slice a n c, .slice a' n' c'] w fun e w' => e = .returned (.bool (zeq l m)) ∧ ∃ q, w' = w.drewN q := by
  have hl := h.len
  have hl' := h'.len
  have hn63 := h.small.1
  have hn63' := h'.small.1
  by_cases hnn : n = n'
  · subst hnn
    have H := hid h
    have H' := hid h'
    have HL := hid hl
    have HL' := hid hl'
    clear h h' hl hl'
    go_enter Tryd.func47, Tryd.ntmps47
    go_wp2
    go_loopw [5] (fun i wr => ∃ j : Nat, i = .int .i64 j ∧ j ≤ n ∧ zeq (l.drop j) (m.drop j) = zeq l m ∧ ∃ q, wr = w.drewN q) (fun i _ => n - (numOf i).toNat)
    case atStart => exact ⟨0, rfl, by omega, rfl, 0, rfl⟩
    case round =>
      obtain ⟨j, rfl, hj, hq, q, rfl⟩ := hrel
      by_cases hgo : j < n
      · have e1 : decide ((j : Int) < n) = true := decide_eq_true (by omega)
        have e2 : (j : Int) < n := by omega
        obtain ⟨blx, offx, x0, rfl, _, hx, c0⟩ := H.out.at_ hgo
        obtain ⟨bly, offy, y0, rfl, _, hy, d0⟩ := H'.out.at_ hgo
        have HD : Hid (zeq l m = ((x0 == y0) && zeq (l.drop (j + 1)) (m.drop (j + 1)))) := by
          rw [Hid, ← hq, drop_atZ hx, drop_atZ hy, zeq_cons]
        clear hx hy hq
        have hn0 : (x0 != y0) = !(x0 == y0) := rfl
        cases hs : (x0 == y0)
        · rw [hs] at hn0
          have HE : Hid (zeq l m = false) := by rw [Hid, HD.out, hs]; rfl
          clear HD
          go_wp2
          go_quiet (fail)
          go_wp2
          go_ret
          rw [HE.out, World.drewN_drewN]
          exact ⟨rfl, _, rfl⟩
        · rw [hs] at hn0
          have HE : Hid (zeq (l.drop (j + 1)) (m.drop (j + 1)) = zeq l m) := by rw [Hid, HD.out, hs]; rfl
          clear HD
          go_wp2
          go_quiet (fail)
          go_wp2
          go_roundw
          case rel => exact ⟨j + 1, by go_num, by omega, HE.out, _, rfl⟩
          case measure => simp [numOf]; omega
      · have e1 : decide ((j : Int) < n) = false := decide_eq_false (by omega)
        have HE : Hid (zeq l m = true) := by
          rw [Hid, ← hq, List.drop_eq_nil_of_le (by rw [HL.out]; omega), List.drop_eq_nil_of_le (by rw [HL'.out]; omega)]
          rfl
        clear hq
        go_wp2
        go_ret
        rw [HE.out]
        exact ⟨rfl, _, rfl⟩
  · have HE : Hid (zeq l m = false) := zeq_len (by omega)
    have e1 : ((n : Int) == n') = false := by simp; omega
    clear h h' hl hl'
    go_enter Tryd.func47, Tryd.ntmps47
    go_wp2
    go_ret
    rw [HE.out]
    exact ⟨rfl, 0, rfl⟩

end Go.Proofs.YtdgknofpkafppaaDoor

/- Orders as lists of numbers: where one stands first, without one, one put in. No program. -/
namespace Go.Proofs.YtdgknofpkafppaaDoor
open Go Go.RowKit

/-- Where the first k stands. -/
def zx (k : Int) : List Int → Option Nat
  | [] => none
  | x :: l => if x = k then some 0 else (zx k l).map (· + 1)
/-- Without each k. -/
def dr (k : Int) (l : List Int) : List Int := l.filter fun z => z != k
/-- One put in at a place. -/
def ins (l : List Int) (i : Nat) (z : Int) : List Int := l.take i ++ z :: l.drop i

theorem zx_drop {k : Int} {l : List Int} : ∀ {j : Nat}, (∀ i y, i < j → l[i]? = some y → y ≠ k) → zx k l = (zx k (l.drop j)).map (· + j)
  | 0, _ => by simp
  | j + 1, h => by
    rw [zx_drop (j := j) fun i y hi hy => h i y (by omega) hy]
    cases hd' : l[j]? with
    | none =>
      have : l.length ≤ j := List.getElem?_eq_none_iff.1 hd'
      rw [List.drop_eq_nil_of_le this, List.drop_eq_nil_of_le (by omega)]
      rfl
    | some y =>
      rw [drop_atZ hd', zx, if_neg (h j y (by omega) hd')]
      cases zx k (l.drop (j + 1)) with
      | none => rfl
      | some i => simp; omega
theorem dr_cons (k x : Int) (l : List Int) : dr k (x :: l) = if x = k then dr k l else x :: dr k l := by
  unfold dr
  rw [List.filter_cons]
  by_cases h : x = k <;> simp [h]
theorem dr_append (k : Int) (l m : List Int) : dr k (l ++ m) = dr k l ++ dr k m := List.filter_append ..
theorem dr_length (k : Int) (l : List Int) : (dr k l).length ≤ l.length := List.length_filter_le ..
theorem mem_dr {k y : Int} {l : List Int} : y ∈ dr k l ↔ y ∈ l ∧ y ≠ k := by simp [dr, List.mem_filter]
theorem dr_not {k : Int} {l : List Int} (h : k ∉ l) : dr k l = l := by
  unfold dr
  rw [List.filter_eq_self]
  intro z hz
  simp only [bne_iff_ne, ne_eq]
  intro e
  exact h (e ▸ hz)
theorem zx_none {k : Int} : ∀ {l : List Int}, zx k l = none ↔ k ∉ l
  | [] => by simp [zx]
  | x :: l => by
    rw [zx]
    by_cases hx : x = k
    · simp [hx]
    · rw [if_neg hx, Option.map_eq_none_iff, zx_none (l := l), List.mem_cons, not_or]
      exact ⟨fun h => ⟨fun e => hx e.symm, h⟩, fun h => h.2⟩
theorem zx_some {k : Int} : ∀ {l : List Int} {i : Nat}, zx k l = some i → i < l.length ∧ l[i]? = some k ∧ dr k l = l.take i ++ dr k (l.drop (i + 1)) ∧ k ∉ l.take i
  | [], _, h => by cases h
  | x :: l, i, h => by
    rw [zx] at h
    split at h
    · rename_i hx
      cases h
      refine ⟨by simp, by simp [hx], ?_, by simp⟩
      rw [dr_cons, if_pos hx]
      rfl
    · rename_i hx
      obtain ⟨m, hm, rfl⟩ := Option.map_eq_some_iff.1 h
      obtain ⟨h1, h2, h3, h4⟩ := zx_some hm
      refine ⟨by simpa using h1, by simpa using h2, ?_, ?_⟩
      · rw [dr_cons, if_neg hx, h3]
        rfl
      · rw [List.take_succ_cons, List.mem_cons, not_or]
        exact ⟨fun e => hx e.symm, h4⟩
/-- Put beside another one: nothing where that may not be. -/
def bes (l : List Int) (id by_ : Int) (b : Nat) : Option (List Int) :=
  match zx id l with
  | none => none
  | some _ => (zx by_ (dr id l)).map fun i => ins (dr id l) (i + b) id
theorem ins_length (l : List Int) (i : Nat) (z : Int) : (ins l i z).length = l.length + 1 := by
  have e : l.length = (l.take i).length + (l.drop i).length := by rw [← List.length_append, List.take_append_drop]
  unfold ins
  rw [List.length_append, List.length_cons]
  omega
theorem ins_end (l : List Int) (z : Int) : ins l l.length z = l ++ [z] := by simp [ins]

/-- The document's: none if they are one, or one of them is not there. -/
theorem bes_doc (l : List Int) (id by_ : Int) (b : Nat) : bes l id by_ b = if id = by_ ∨ zx id l = none ∨ zx by_ l = none then none else (zx by_ (dr id l)).map fun i => ins (dr id l) (i + b) id := by
  unfold bes
  cases h1 : zx id l with
  | none => rw [if_pos (.inr (.inl rfl))]
  | some k =>
    by_cases h2 : id = by_
    · rw [if_pos (.inl h2)]
      have : zx by_ (dr id l) = none := zx_none.2 (fun h => (mem_dr.1 h).2 h2.symm)
      show Option.map _ (zx by_ (dr id l)) = none
      rw [this]
      rfl
    · by_cases h3 : zx by_ l = none
      · rw [if_pos (.inr (.inr h3))]
        have : zx by_ (dr id l) = none := zx_none.2 (fun h => zx_none.1 h3 (mem_dr.1 h).1)
        show Option.map _ (zx by_ (dr id l)) = none
        rw [this]
        rfl
      · rw [if_neg (by
          rintro (h | h | h)
          · exact h2 h
          · cases h
          · exact h3 h)]

/-- Where one is, the cell says that it is the one, or not. -/
theorem zx_at {k y : Int} {l : List Int} {j : Nat} (h : l[j]? = some y) : zx k (l.drop j) = if y = k then some 0 else (zx k (l.drop (j + 1))).map (· + 1) := by
  rw [drop_atZ h, zx]
end Go.Proofs.YtdgknofpkafppaaDoor

/- Numbers with what they have, in the order in which they came, and the maps that hold them; no walk (stage 11's, without the pools). -/
namespace Go.Proofs.YtdgknofpkafppaaDoor
open Go Go.RowKit

section
variable {α : Type}
/-- What a number has. -/
def gt : List (Int × α) → Int → Option α
  | [], _ => none
  | e :: l, k => if e.1 = k then some e.2 else gt l k
/-- Another value in its place. -/
def st (l : List (Int × α)) (k : Int) (q : α) : List (Int × α) := l.map fun e => if e.1 = k then (k, q) else e
def rm (l : List (Int × α)) (k : Int) : List (Int × α) := l.filter fun e => decide (e.1 ≠ k)
def keys (l : List (Int × α)) : List Int := l.map (·.1)
/-- In its place, or behind the others. -/
def wr (l : List (Int × α)) (k : Int) (q : α) : List (Int × α) := if (gt l k).isSome then st l k q else l ++ [(k, q)]
/-- Where it stands. -/
def ix : List (Int × α) → Int → Nat
  | [], _ => 0
  | e :: l, k => if e.1 = k then 0 else ix l k + 1

theorem gt_none {l : List (Int × α)} {k : Int} : gt l k = none ↔ k ∉ keys l := by
  induction l with
  | nil => simp [gt, keys]
  | cons e l ih =>
    simp only [gt, keys, List.map_cons, List.mem_cons, not_or]
    split
    · rename_i h
      simp [h]
    · rename_i h
      rw [ih, keys]
      exact ⟨fun q => ⟨fun x => h x.symm, q⟩, fun q => q.2⟩
theorem gt_some {l : List (Int × α)} {k : Int} : (gt l k).isSome = true ↔ k ∈ keys l := by
  cases h : gt l k with
  | none => simp [gt_none.1 h]
  | some q =>
    have : ¬ k ∉ keys l := fun h' => by rw [gt_none.2 h'] at h; cases h
    simpa using this
theorem gt_app (l : List (Int × α)) (k x : Int) (q : α) : gt (l ++ [(k, q)]) x = if (gt l x).isSome then gt l x else if k = x then some q else none := by
  induction l with
  | nil => simp [gt]
  | cons e l ih =>
    simp only [List.cons_append, gt]
    split
    · simp
    · exact ih
theorem gt_st (l : List (Int × α)) (k x : Int) (q : α) : gt (st l k q) x = if x = k then (gt l k).map (fun _ => q) else gt l x := by
  induction l with
  | nil => simp [gt, st]
  | cons e l ih =>
    simp only [st, List.map_cons, gt] at ih ⊢
    by_cases he : e.1 = k
    · rw [if_pos he, if_pos he]
      by_cases hx : x = k
      · rw [if_pos hx.symm, if_pos hx]
        simp
      · rw [if_neg (fun h => hx h.symm), if_neg hx, ih, if_neg hx, if_neg (fun h => hx (h.symm.trans he))]
    · rw [if_neg he, if_neg he]
      by_cases hx : x = k
      · subst hx
        rw [if_neg he, ih, if_pos rfl, if_pos rfl]
      · rw [if_neg hx, ih, if_neg hx]
theorem gt_wr (l : List (Int × α)) (k x : Int) (q : α) : gt (wr l k q) x = if x = k then some q else gt l x := by
  unfold wr
  split
  · rename_i h
    rw [gt_st]
    by_cases hx : x = k
    · rw [if_pos hx, if_pos hx]
      obtain ⟨q', hq'⟩ := Option.isSome_iff_exists.1 h
      rw [hq']
      rfl
    · rw [if_neg hx, if_neg hx]
  · rename_i h
    rw [gt_app]
    by_cases hx : x = k
    · subst hx
      rw [if_neg h, if_pos rfl, if_pos rfl]
    · rw [if_neg hx]
      cases hg : gt l x with
      | none => simp [show k ≠ x from fun h => hx h.symm]
      | some q => simp
theorem gt_rm (l : List (Int × α)) (k x : Int) : gt (rm l k) x = if x = k then none else gt l x := by
  induction l with
  | nil => simp [gt, rm]
  | cons e l ih =>
    simp only [rm, List.filter_cons, gt] at ih ⊢
    by_cases he : e.1 = k
    · rw [if_neg (by simpa using he), ih]
      by_cases hx : x = k
      · rw [if_pos hx, if_pos hx]
      · rw [if_neg hx, if_neg hx, if_neg (fun h => hx (h.symm.trans he))]
    · rw [if_pos (by simpa using he)]
      simp only [gt]
      by_cases hx : x = k
      · rw [if_pos hx, if_neg (fun h => he (h.trans hx)), ih, if_pos hx]
      · rw [if_neg hx, ih, if_neg hx]
theorem keys_st (l : List (Int × α)) (k : Int) (q : α) : keys (st l k q) = keys l := by
  simp only [keys, st, List.map_map]
  refine List.map_congr_left fun e _ => ?_
  simp only [Function.comp]
  split
  · rename_i h
    exact h.symm
  · rfl
theorem keys_wr {l : List (Int × α)} (h : (keys l).Nodup) (k : Int) (q : α) : (keys (wr l k q)).Nodup := by
  unfold wr
  split
  · rw [keys_st]
    exact h
  · rename_i hn
    have hn' : k ∉ keys l := fun hm => hn (gt_some.2 hm)
    rw [keys, List.map_append]
    refine List.nodup_append.2 ⟨h, by simp, fun a ha b hb e => hn' ?_⟩
    simp only [List.map_cons, List.map_nil, List.mem_cons, List.not_mem_nil, or_false] at hb
    rw [← hb, ← e]
    exact ha
theorem keys_rm {l : List (Int × α)} (h : (keys l).Nodup) (k : Int) : (keys (rm l k)).Nodup :=
  List.Nodup.sublist (List.Sublist.map _ List.filter_sublist) h
theorem wr_length (l : List (Int × α)) (k : Int) (q : α) : (wr l k q).length ≤ l.length + 1 := by
  unfold wr
  split
  · simp [st]
  · simp
theorem rm_length (l : List (Int × α)) (k : Int) : (rm l k).length ≤ l.length := List.length_filter_le _ _
theorem mem_wr {l : List (Int × α)} {k : Int} {q : α} {e : Int × α} (h : e ∈ wr l k q) : e ∈ l ∨ e = (k, q) := by
  unfold wr at h
  split at h
  · obtain ⟨x, hx, rfl⟩ := List.mem_map.1 h
    split
    · exact .inr rfl
    · exact .inl hx
  · simpa using h
theorem mem_rm {l : List (Int × α)} {k : Int} {e : Int × α} (h : e ∈ rm l k) : e ∈ l := (List.mem_filter.1 h).1
theorem gt_mem {l : List (Int × α)} {k : Int} {q : α} (h : gt l k = some q) : (k, q) ∈ l := by
  induction l with
  | nil => cases h
  | cons e l ih =>
    rw [gt] at h
    split at h
    · rename_i he
      cases h
      rw [← he]
      exact List.mem_cons_self
    · exact List.mem_cons_of_mem _ (ih h)

theorem ix_le (l : List (Int × α)) (k : Int) : ix l k ≤ l.length := by
  induction l with
  | nil => exact Nat.zero_le _
  | cons e l ih =>
    simp only [ix, List.length_cons]
    split <;> omega
theorem ix_none {l : List (Int × α)} {k : Int} (h : gt l k = none) : ix l k = l.length := by
  induction l with
  | nil => rfl
  | cons e l ih =>
    rw [gt] at h
    rw [ix]
    split at h
    · cases h
    · rename_i he
      rw [if_neg he, ih h]
      rfl
theorem ix_some {l : List (Int × α)} {k : Int} {q : α} (h : gt l k = some q) : l[ix l k]? = some (k, q) := by
  induction l with
  | nil => cases h
  | cons e l ih =>
    rw [gt] at h
    rw [ix]
    split at h
    · rename_i he
      rw [if_pos he]
      cases h
      simp [← he]
    · rename_i he
      rw [if_neg he]
      simpa using ih h
theorem ix_lt {l : List (Int × α)} {k : Int} {q : α} (h : gt l k = some q) : ix l k < l.length := (List.getElem?_eq_some_iff.1 (ix_some h)).1
/-- Ahead of it there is none. -/
theorem ix_ahead (l : List (Int × α)) (k : Int) (j : Nat) (hj : j < ix l k) (e : Int × α) (he : l[j]? = some e) : e.1 ≠ k := by
  induction l generalizing j with
  | nil => simp at he
  | cons x l ih =>
    rw [ix] at hj
    split at hj
    · omega
    · rename_i hx
      cases j with
      | zero =>
        simp only [List.getElem?_cons_zero, Option.some.injEq] at he
        rw [← he]
        exact hx
      | succ j =>
        simp only [List.getElem?_cons_succ] at he
        exact ih j (by omega) he
theorem rm_none {l : List (Int × α)} {k : Int} (h : gt l k = none) : rm l k = l := by
  rw [rm, List.filter_eq_self]
  intro e he
  simp only [ne_eq, decide_not, Bool.not_eq_eq_eq_not, Bool.not_true, decide_eq_false_iff_not]
  intro h1
  exact gt_none.1 h (h1 ▸ List.mem_map_of_mem he)
theorem st_none {l : List (Int × α)} {k : Int} (h : k ∉ keys l) (q : α) : st l k q = l := by
  rw [st]
  conv => rhs; rw [← List.map_id l]
  refine List.map_congr_left fun e he => ?_
  have hne : ¬ e.1 = k := fun h1 => h (by rw [← h1]; exact List.mem_map_of_mem he)
  rw [if_neg hne]
  rfl
theorem st_ix {l : List (Int × α)} (hn : (keys l).Nodup) {k : Int} {q0 : α} (h : gt l k = some q0) (q : α) : st l k q = l.set (ix l k) (k, q) := by
  induction l with
  | nil => cases h
  | cons e l ih =>
    rw [keys, List.map_cons, List.nodup_cons] at hn
    rw [gt] at h
    rw [ix, st, List.map_cons]
    split at h
    · rename_i he
      rw [if_pos he, if_pos he, List.set_cons_zero]
      have := st_none (l := l) (k := k) (by rw [← he]; exact hn.1) q
      rw [st] at this
      rw [this]
    · rename_i he
      rw [if_neg he, if_neg he, List.set_cons_succ]
      have := ih hn.2 h
      rw [st] at this
      rw [this]
theorem rm_ix {l : List (Int × α)} (hn : (keys l).Nodup) {k : Int} {q0 : α} (h : gt l k = some q0) : rm l k = l.take (ix l k) ++ l.drop (ix l k + 1) := by
  induction l with
  | nil => cases h
  | cons e l ih =>
    rw [keys, List.map_cons, List.nodup_cons] at hn
    rw [gt] at h
    rw [ix, rm, List.filter_cons]
    split at h
    · rename_i he
      rw [if_pos he, if_neg (by simpa using he)]
      have := rm_none (l := l) (k := k) (gt_none.2 (by rw [← he]; exact hn.1))
      rw [rm] at this
      rw [this]
      rfl
    · rename_i he
      rw [if_neg he, if_pos (by simpa using he)]
      have := ih hn.2 h
      rw [rm] at this
      rw [this]
      rfl

/-! The map that holds them. -/
theorem key_ne {x k : Int} (h : x ≠ k) : Lit.int .i64 x ≠ Lit.int .i64 k := by simpa using h
theorem isKey (k : Int) : WideAt.IsKeyLit (.int .i64 k) := trivial

def Rp (dat : α → DataW Unit) (z : α) (D : DataW Unit) (l : List (Int × α)) : Prop := ∀ k : Int, Maps.has D (.int .i64 k) = (gt l k).isSome ∧ D.atKey (.int .i64 k) (dat z) = dat ((gt l k).getD z)

variable {dat : α → DataW Unit} {z : α} {D : DataW Unit} {l : List (Int × α)}
theorem Rp.put (h : Rp dat z D l) (hm : Maps.IsMap D) (k : Int) (q : α) : Rp dat z (D.put (.int .i64 k) (dat q)) (wr l k q) := fun x => by
  rw [gt_wr]
  by_cases hx : x = k
  · subst hx
    rw [if_pos rfl, Maps.has_put_same hm (isKey _), Maps.atKey_put_same hm (isKey _)]
    exact ⟨rfl, rfl⟩
  · rw [if_neg hx, Maps.has_put_other (key_ne hx), Maps.atKey_put_other (key_ne hx)]
    exact h x
theorem Rp.del (h : Rp dat z D l) (k : Int) : Rp dat z (D.del (.int .i64 k)) (rm l k) := fun x => by
  rw [gt_rm]
  by_cases hx : x = k
  · subst hx
    rw [if_pos rfl, Maps.has_del_same, Maps.atKey_del_same]
    exact ⟨rfl, rfl⟩
  · rw [if_neg hx, Maps.has_del_other (key_ne hx), Maps.atKey_del_other (key_ne hx)]
    exact h x
theorem rp_empty (dat : α → DataW Unit) (z : α) : Rp dat z (.map []) [] := fun _ => ⟨rfl, rfl⟩

variable {P : Program} {kt : TypeId} {w : World} {b n : Nat} {R : Value → Option (DataW Unit × List MemPlace)}
theorem pkeys_perm (h : w.ownsMap P kt R b n D) (hk : P.underlying kt = some (.int .i64)) (hR : Rp dat z D l) (hn : (keys l).Nodup) : (keys l).Perm (intKeys D) := by
  have hC : CollectedI D (fun _ => false) (keys l) := ⟨hn, fun x => by rw [← gt_some, (hR x).1]; simp⟩
  exact hC.perm h (Maps.int_keyed hk) hk (fun _ => rfl)
theorem psize (h : w.ownsMap P kt R b n D) (hk : P.underlying kt = some (.int .i64)) (hR : Rp dat z D l) (hn : (keys l).Nodup) : Maps.size D = l.length := by
  have := (pkeys_perm h hk hR hn).length_eq
  rw [keys, List.length_map] at this
  rw [this]
  obtain ⟨es, rfl, _⟩ := h.entries (Maps.int_keyed hk)
  simp [intKeys, Maps.size]
theorem ptight (h : w.ownsMap P kt R b n D) (hk : P.underlying kt = some (.int .i64)) (hR : Rp dat z D l) (hn : (keys l).Nodup) : w.ownsMap P kt R b l.length D := by
  have e1 := psize h hk hR hn
  obtain ⟨es, clock, hb, F, hs, rfl⟩ := h
  refine ⟨es, clock, hb, F, ?_, rfl⟩
  have e2 : Maps.size _ ≤ l.length := Nat.le_of_eq e1
  simpa [Maps.size, length_sorted] using e2
theorem psorted (h : w.ownsMap P kt R b n D) (hk : P.underlying kt = some (.int .i64)) (hR : Rp dat z D l) (hn : (keys l).Nodup) {ss : List Int} (hp : ss.Perm (intKeys D)) : ss.mergeSort leI = (keys l).mergeSort leI :=
  mergeSort_of_perm_i (hp.trans (pkeys_perm h hk hR hn).symm)
end
end Go.Proofs.YtdgknofpkafppaaDoor

/- Forests: surfaces, in one another: what each call answers and leaves. No program. -/
namespace Go.Proofs.YtdgknofpkafppaaDoor
open Go Go.RowKit

/-- Orders as numbers, and back. -/
def un1 (l : List (List Int)) : List Int := l.map hd
def sg (l : List Int) : List (List Int) := l.map fun z => [z]
theorem un1_sg (l : List Int) : un1 (sg l) = l := by
  rw [un1, sg, List.map_map]
  conv => rhs; rw [← List.map_id l]
  rfl
theorem sg_un1 {l : List (List Int)} (h : ∀ y ∈ l, y.length = 1) : sg (un1 l) = l := by
  rw [un1, sg, List.map_map]
  conv => rhs; rw [← List.map_id l]
  refine List.map_congr_left fun y hy => ?_
  match y, h y hy with
  | [z], _ => rfl
theorem sg_size (l : List Int) : ∀ y ∈ sg l, y.length = 1 := fun y hy => by
  obtain ⟨z, _, rfl⟩ := List.mem_map.1 hy
  rfl
theorem sg_length (l : List Int) : (sg l).length = l.length := by simp [sg]
theorem un1_length (l : List (List Int)) : (un1 l).length = l.length := by simp [un1]
theorem sg_inj {l m : List Int} (h : sg l = sg m) : l = m := by rw [← un1_sg l, h, un1_sg]

/-- A surface: its parent (0: none), whether it is sync by itself, its three states. -/
structure Sf where
  par : Int
  syn : Bool
  pe : Sq
  ca : Sq
  no : Sq
abbrev Fo := List (Int × Sf)
/-- What a surface has at first. -/
def sqA : Sq := ⟨false, 0, [], [], false, true, [], false, [[0]], []⟩
def sf0 : Sf := ⟨0, false, sq0, sq0, sqA⟩

/-- The latest order. -/
def lat (s : Sf) : List (List Int) := bif s.pe.ord then s.pe.od else bif s.ca.ord then s.ca.od else s.no.od
def ordS (l : List (List Int)) (s : Sf) : Sf := { s with pe := { s.pe with ord := true, od := l } }
def plcS (c : List Int) (s : Sf) : Sf := { s with pe := { s.pe with pl := put1 s.pe.pl c } }
/-- Without a child. -/
def outL (id : Int) (l : List (List Int)) : List (List Int) := l.filter fun y => hd y != id
def outQ (id : Int) (q : Sq) : Sq := { q with od := outL id q.od, pl := outL id q.pl }
def outS (id : Int) (s : Sf) : Sf := { s with pe := outQ id s.pe, ca := outQ id s.ca, no := outQ id s.no }
theorem outL_sg (id : Int) (l : List Int) : outL id (sg l) = sg (dr id l) := by
  rw [outL, sg, List.filter_map, dr]
  rfl

/-- A surface turned, if it is there. -/
def upd (F : Fo) (id : Int) (f : Sf → Sf) : Fo := match gt F id with
  | none => F
  | some s => st F id (f s)
theorem gt_upd (F : Fo) (id x : Int) (f : Sf → Sf) : gt (upd F id f) x = if x = id then (gt F id).map f else gt F x := by
  unfold upd
  cases h : gt F id with
  | none =>
    by_cases hx : x = id
    · rw [if_pos hx, hx, h]; rfl
    · rw [if_neg hx]
  | some s =>
    dsimp only
    rw [gt_st, h]
    rfl
theorem keys_upd (F : Fo) (id : Int) (f : Sf → Sf) : keys (upd F id f) = keys F := by
  unfold upd
  split
  · rfl
  · exact keys_st ..
theorem upd_length (F : Fo) (id : Int) (f : Sf → Sf) : (upd F id f).length = F.length := by
  have h := congrArg List.length (keys_upd F id f)
  simpa only [keys, List.length_map] using h

/-- Who is in whom: id is x, or one of x's parents, theirs, and so on. -/
inductive Anc (F : Fo) : Int → Int → Prop
  | self {x : Int} {s : Sf} : gt F x = some s → Anc F x x
  | up {x id : Int} {s : Sf} : gt F x = some s → Anc F s.par id → Anc F x id
theorem anc_iff {F : Fo} {x id : Int} : Anc F x id ↔ ∃ s, gt F x = some s ∧ (x = id ∨ Anc F s.par id) := by
  constructor
  · intro h
    cases h with
    | self h => exact ⟨_, h, .inl rfl⟩
    | up h h' => exact ⟨_, h, .inr h'⟩
  · rintro ⟨s, h, rfl | h'⟩
    · exact .self h
    · exact .up h h'
/-- Synced. -/
inductive Syd (F : Fo) : Int → Prop
  | own {x : Int} {s : Sf} : gt F x = some s → s.par ≠ 0 → s.syn = true → Syd F x
  | up {x : Int} {s : Sf} : gt F x = some s → s.par ≠ 0 → Syd F s.par → Syd F x
theorem syd_iff {F : Fo} {x : Int} : Syd F x ↔ ∃ s, gt F x = some s ∧ s.par ≠ 0 ∧ (s.syn = true ∨ Syd F s.par) := by
  constructor
  · intro h
    cases h with
    | own h h1 h2 => exact ⟨_, h, h1, .inl h2⟩
    | up h h1 h2 => exact ⟨_, h, h1, .inr h2⟩
  · rintro ⟨s, h, h1, h2 | h2⟩
    · exact .own h h1 h2
    · exact .up h h1 h2
open Classical in
noncomputable def anc (F : Fo) (x id : Int) : Bool := decide (Anc F x id)
open Classical in
noncomputable def sy (F : Fo) (x : Int) : Bool := decide (Syd F x)
open Classical in
theorem anc_true {F : Fo} {x id : Int} : anc F x id = true ↔ Anc F x id := by
  unfold anc
  exact decide_eq_true_iff
open Classical in
theorem sy_true {F : Fo} {x : Int} : sy F x = true ↔ Syd F x := by
  unfold sy
  exact decide_eq_true_iff
theorem anc_none {F : Fo} {x : Int} (h : gt F x = none) (id : Int) : anc F x id = false := by
  rw [Bool.eq_false_iff, ne_eq, anc_true, anc_iff, h]
  simp
theorem anc_some {F : Fo} {x : Int} {s : Sf} (h : gt F x = some s) (id : Int) : anc F x id = (x == id || anc F s.par id) := by
  rw [Bool.eq_iff_iff, anc_true, anc_iff, h]
  simp [anc_true]
theorem sy_none {F : Fo} {x : Int} (h : gt F x = none) : sy F x = false := by
  rw [Bool.eq_false_iff, ne_eq, sy_true, syd_iff, h]
  simp
theorem sy_some {F : Fo} {x : Int} {s : Sf} (h : gt F x = some s) : sy F x = (s.par != 0 && (s.syn || sy F s.par)) := by
  rw [Bool.eq_iff_iff, sy_true, syd_iff, h]
  simp [sy_true]

/-- Add. -/
def addE (F : Fo) (id : Int) : Nat := if id < 1 then 1 else if (gt F id).isSome then 5 else if 40 ≤ F.length then 4 else 0
def addF (F : Fo) (id : Int) : Fo := if addE F id = 0 then F ++ [(id, sf0)] else F
/-- Unsub. -/
def unsE (F : Fo) (id : Int) : Nat := match gt F id with
  | none => 5
  | some s => if s.par = 0 then 10 else 0
def unsF (F : Fo) (id : Int) : Fo := match gt F id with
  | none => F
  | some s => if s.par = 0 then F else upd (upd F s.par (outS id)) id fun s => { s with par := 0 }
/-- Drop. -/
def drpE (F : Fo) (id : Int) : Nat := match gt F id with
  | none => 5
  | some _ => 0
def drpF (F : Fo) (id : Int) : Fo := match gt F id with
  | none => F
  | some _ => (rm (unsF F id) id).map fun e => (e.1, if e.2.par = id then { e.2 with par := 0 } else e.2)
/-- Sub. -/
noncomputable def subE (F : Fo) (id p : Int) : Nat := match gt F id, gt F p with
  | some s, some _ => if s.par ≠ 0 then 10 else if anc F p id then 11 else 0
  | _, _ => 5
noncomputable def subF (F : Fo) (id p : Int) : Fo := if subE F id p = 0 then upd (upd F id fun s => { s with par := p, syn := true }) p (fun q => plcS [id, 0, 0] (ordS (sg (dr id (un1 (lat q)) ++ [id])) q)) else F
/-- What turns pending alone. -/
def attS (b : Int) (s : Sf) : Sf := { s with pe := { s.pe with at_ := true, buf := b } }
def dmgS (r : List Int) (s : Sf) : Sf := { s with pe := { s.pe with dm := s.pe.dm ++ [r] } }
def frmS (c : Int) (s : Sf) : Sf := { s with pe := { s.pe with fr := s.pe.fr ++ [[c]] } }
def inpS (a : Bool) (l : List (List Int)) (s : Sf) : Sf := { s with pe := { s.pe with inp := true, all := a, rg := bif a then [] else l } }
def hasE (F : Fo) (id : Int) : Nat := match gt F id with
  | none => 5
  | some _ => 0
def edg (v : Int) : Int := min (max v (-16777216)) 16777216
def posF (F : Fo) (id x y : Int) : Fo := match gt F id with
  | none => F
  | some s => if s.par = 0 then F else upd F s.par (plcS [id, edg x, edg y])
/-- Above (1), Below (0): the new order of the parent. -/
def putL (F : Fo) (id by_ : Int) (b : Nat) : Option (Int × List Int) := match gt F id with
  | none => none
  | some s => if s.par = 0 then none else match gt F s.par with
    | none => none
    | some q => if by_ = s.par then (bes (un1 (lat q)) id 0 b).map fun m => (s.par, m) else if by_ = 0 then none else (bes (un1 (lat q)) id by_ b).map fun m => (s.par, m)
def putE (F : Fo) (id by_ : Int) (b : Nat) : Nat := match unsE F id with
  | 0 => match putL F id by_ b with
    | none => 11
    | some _ => 0
  | k => k
def putF (F : Fo) (id by_ : Int) (b : Nat) : Fo := match putL F id by_ b with
  | none => F
  | some (p, m) => upd F p (ordS (sg m))
def synF (F : Fo) (id : Int) (on : Bool) : Fo := match gt F id with
  | none => F
  | some s => if s.par = 0 then F else st F id { s with syn := on }

/-- What is cached of the Synced children is applied. -/
def aplS (s : Sf) : Sf := { s with no := apl s.no s.ca, ca := sq0 }
noncomputable def kds : Nat → Fo → Int → List Int → Fo × List Int
  | 0, F, _, l => (F, l)
  | n + 1, F, x, l => match gt F x with
    | none => (F, l)
    | some s => (un1 s.no.od).foldl (fun r k => match gt r.1 k with
      | none => r
      | some c => if k = 0 ∨ sy r.1 k = false then r else if non c.ca then kds n r.1 k r.2 else kds n (upd r.1 k aplS) k (r.2 ++ [k])) (F, l)
/-- Commit: n: more than the forest is deep. -/
noncomputable def comF (n : Nat) (F : Fo) (id : Int) : Fo × List Int := match gt F id with
  | none => (F, [])
  | some _ => if sy F id then (upd F id fun s => { s with ca := mrg s.ca s.pe, pe := sq0 }, []) else kds n (upd F id fun s => { s with no := apl s.no (mrg s.ca s.pe), ca := sq0, pe := sq0 }) id [id]
/-- Take. -/
def takS (s : Sf) : Sf := { s with no := { s.no with fr := [] } }
def takL (F : Fo) (id : Int) : List (List Int) := match gt F id with
  | none => []
  | some s => s.no.fr
/-- The buffers that are held, as they come. -/
def hldL (F : Fo) : List Int := F.flatMap fun e => (bif e.2.ca.at_ then [e.2.ca.buf] else []) ++ [e.2.no.buf]
/-- Walk. -/
def plx (k : Int) (l : List (List Int)) : Int × Int := match fnd k l with
  | some [_, x, y] => (x, y)
  | _ => (0, 0)
def wlk (F : Fo) : Nat → Int → Int → Int → List (List Int)
  | 0, _, _, _ => []
  | n + 1, id, x, y => match gt F id with
    | none => []
    | some s => if s.no.buf = 0 then [] else (un1 s.no.od).flatMap fun k => if k = 0 then [[id, x, y]] else wlk F n k (x + (plx k s.no.pl).1) (y + (plx k s.no.pl).2)
end Go.Proofs.YtdgknofpkafppaaDoor

/- Forests: nobody is in itself; how deep a surface is; who is in an order is a child. No program. -/
namespace Go.Proofs.YtdgknofpkafppaaDoor
open Go Go.RowKit

theorem Anc.trans {F : Fo} {x y z : Int} (h : Anc F x y) (h' : Anc F y z) : Anc F x z := by
  induction h with
  | self _ => exact h'
  | up h1 _ ih => exact .up h1 (ih h')
theorem Anc.has {F : Fo} {x y : Int} (h : Anc F x y) : (gt F x).isSome = true := by
  cases h with
  | self h => rw [h]; rfl
  | up h _ => rw [h]; rfl
theorem Anc.hasR {F : Fo} {x y : Int} (h : Anc F x y) : (gt F y).isSome = true := by
  induction h with
  | self h => rw [h]; rfl
  | up _ _ ih => exact ih

/-- Fewer ones of a list, and one of it is none of the fewer. -/
theorem filter_lt {α : Type} {l : List α} {p q : α → Bool} (h : ∀ x, p x = true → q x = true) {a : α} (ha : a ∈ l) (hp : p a = false) (hq : q a = true) : (l.filter p).length < (l.filter q).length := by
  induction l with
  | nil => cases ha
  | cons x l ih =>
    have hle : ∀ l : List α, (l.filter p).length ≤ (l.filter q).length := fun l => by
      induction l with
      | nil => exact Nat.le_refl _
      | cons y l ih =>
        rw [List.filter_cons, List.filter_cons]
        cases hy : p y with
        | true => rw [h y hy]; simp only [if_true, List.length_cons]; omega
        | false =>
          rw [if_neg (by simp)]
          split
          · rw [List.length_cons]; omega
          · exact ih
    rw [List.filter_cons, List.filter_cons]
    rcases List.mem_cons.1 ha with rfl | ha
    · rw [hp, hq, if_neg (by simp), if_pos rfl, List.length_cons]
      have := hle l
      omega
    · have h1 := ih ha
      cases hy : p x with
      | true => rw [h x hy]; simp only [if_true, List.length_cons]; omega
      | false =>
        rw [if_neg (by simp)]
        split
        · rw [List.length_cons]; omega
        · exact h1

/-- Nobody is in itself; a parent is there. -/
structure Acy (F : Fo) : Prop where
  no : ∀ x s, gt F x = some s → ¬ Anc F s.par x
  par : ∀ x s, gt F x = some s → s.par ≠ 0 → ∃ q, gt F s.par = some q
/-- How deep it is: how many it is in, itself among them. -/
noncomputable def dpt (F : Fo) (x : Int) : Nat := ((keys F).filter fun y => anc F x y).length
theorem dpt_le (F : Fo) (x : Int) : dpt F x ≤ F.length := by
  refine Nat.le_trans (List.length_filter_le _ _) ?_
  rw [keys, List.length_map]
  exact Nat.le_refl _
theorem dpt_lt {F : Fo} (hA : Acy F) {x : Int} {s : Sf} (h : gt F x = some s) : dpt F s.par < dpt F x := by
  refine filter_lt (fun y hy => ?_) (a := x) (gt_some.1 (by rw [h]; rfl)) ?_ ?_
  · exact anc_true.2 (.up h (anc_true.1 hy))
  · rw [Bool.eq_false_iff, ne_eq, anc_true]
    exact hA.no x s h
  · exact anc_true.2 (.self h)

/-- Two forests with the same tree. -/
structure Tre (F G : Fo) : Prop where
  keys : keys F = keys G
  same : ∀ x, (gt F x).map (fun s => (s.par, s.syn)) = (gt G x).map fun s => (s.par, s.syn)
theorem Tre.refl (F : Fo) : Tre F F := ⟨rfl, fun _ => rfl⟩
theorem Tre.symm {F G : Fo} (h : Tre F G) : Tre G F := ⟨h.keys.symm, fun x => (h.same x).symm⟩
theorem Tre.trans {F G H : Fo} (h : Tre F G) (h' : Tre G H) : Tre F H := ⟨h.keys.trans h'.keys, fun x => (h.same x).trans (h'.same x)⟩
theorem Tre.some {F G : Fo} (h : Tre F G) {x : Int} {s : Sf} (hs : gt F x = some s) : ∃ t, gt G x = some t ∧ t.par = s.par ∧ t.syn = s.syn := by
  have := h.same x
  rw [hs, Option.map_some] at this
  obtain ⟨t, ht, e⟩ := Option.map_eq_some_iff.1 this.symm
  simp only [Prod.mk.injEq] at e
  exact ⟨t, ht, e.1, e.2⟩
theorem Tre.none {F G : Fo} (h : Tre F G) {x : Int} (hs : gt F x = none) : gt G x = none := by
  have := h.same x
  rw [hs, Option.map_none] at this
  exact Option.map_eq_none_iff.1 this.symm
theorem Tre.anc {F G : Fo} (h : Tre F G) {x y : Int} (ha : Anc F x y) : Anc G x y := by
  induction ha with
  | self h1 =>
    obtain ⟨t, ht, _⟩ := h.some h1
    exact .self ht
  | up h1 _ ih =>
    obtain ⟨t, ht, e, _⟩ := h.some h1
    exact .up ht (by rw [e]; exact ih)
theorem Tre.syd {F G : Fo} (h : Tre F G) {x : Int} (ha : Syd F x) : Syd G x := by
  induction ha with
  | own h1 h2 h3 =>
    obtain ⟨t, ht, e, e'⟩ := h.some h1
    exact .own ht (by rw [e]; exact h2) (by rw [e']; exact h3)
  | up h1 h2 _ ih =>
    obtain ⟨t, ht, e, _⟩ := h.some h1
    exact .up ht (by rw [e]; exact h2) (by rw [e]; exact ih)
theorem Tre.sy {F G : Fo} (h : Tre F G) (x : Int) : sy F x = sy G x := by
  rw [Bool.eq_iff_iff, sy_true, sy_true]
  exact ⟨h.syd, h.symm.syd⟩
theorem Tre.dpt {F G : Fo} (h : Tre F G) (x : Int) : dpt F x = dpt G x := by
  unfold Go.Proofs.YtdgknofpkafppaaDoor.dpt
  rw [h.keys]
  congr 1
  refine List.filter_congr fun y _ => ?_
  rw [Bool.eq_iff_iff, anc_true, anc_true]
  exact ⟨h.anc, h.symm.anc⟩
theorem Tre.acy {F G : Fo} (h : Tre F G) (hA : Acy F) : Acy G := by
  refine ⟨fun x s hs ha => ?_, fun x s hs hp => ?_⟩
  · obtain ⟨t, ht, e, _⟩ := h.symm.some hs
    exact hA.no x t ht (by rw [e]; exact h.symm.anc ha)
  · obtain ⟨t, ht, e, _⟩ := h.symm.some hs
    obtain ⟨q, hq⟩ := hA.par x t ht (by rw [e]; exact hp)
    rw [e] at hq
    obtain ⟨q', hq', _⟩ := h.some hq
    exact ⟨q', hq'⟩
theorem tre_upd (F : Fo) (id : Int) (f : Sf → Sf) (hf : ∀ s, (f s).par = s.par ∧ (f s).syn = s.syn) : Tre F (upd F id f) := by
  refine ⟨(keys_upd F id f).symm, fun x => ?_⟩
  rw [gt_upd]
  split
  · rename_i h
    subst h
    cases hx : gt F x with
    | none => rfl
    | some s => simp [(hf s).1, (hf s).2]
  · rfl

/-- Who is in an order of a surface is a child of it. -/
def Kok (F : Fo) (x : Int) (s : Sf) : Prop := ∀ k, (k ∈ un1 s.pe.od ∨ k ∈ un1 s.ca.od ∨ k ∈ un1 s.no.od) → k ≠ 0 → ∃ c, gt F k = some c ∧ c.par = x
structure Inv (F : Fo) : Prop where
  nod : (keys F).Nodup
  pos : ∀ x ∈ keys F, 1 ≤ x
  len : F.length ≤ 40
  acy : Acy F
  kid : ∀ x s, gt F x = some s → Kok F x s
theorem Inv.zero {F : Fo} (h : Inv F) : gt F 0 = none := gt_none.2 fun hm => by
  have := h.pos 0 hm
  omega
theorem Inv.pos' {F : Fo} (h : Inv F) {x : Int} {s : Sf} (hs : gt F x = some s) : 1 ≤ x := h.pos x (gt_some.1 (by rw [hs]; rfl))
theorem inv_nil : Inv [] := ⟨List.nodup_nil, (fun _ h => by cases h), by decide, ⟨(fun _ _ h => by cases h), fun _ _ h => by cases h⟩, fun _ _ h => by cases h⟩
/-- The same tree, and the orders have no other ones. -/
theorem Inv.turn {F : Fo} (h : Inv F) (id : Int) (f : Sf → Sf) (hf : ∀ s, (f s).par = s.par ∧ (f s).syn = s.syn) (hk : ∀ s, gt F id = some s → Kok F id (f s)) : Inv (upd F id f) := by
  have ht := tre_upd F id f hf
  have hkk : ∀ x s, Kok F x s → Kok (upd F id f) x s := fun x s hs k hk h0 => by
    obtain ⟨c, h1, h2⟩ := hs k hk h0
    obtain ⟨t, h3, h4, _⟩ := ht.some h1
    exact ⟨t, h3, by rw [h4, h2]⟩
  refine ⟨by rw [keys_upd]; exact h.nod, by rw [keys_upd]; exact h.pos, by rw [upd_length]; exact h.len, ht.acy h.acy, fun x s hs => ?_⟩
  rw [gt_upd] at hs
  split at hs
  · rename_i e
    subst e
    obtain ⟨t, h1, rfl⟩ := Option.map_eq_some_iff.1 hs
    exact hkk _ _ (hk t h1)
  · exact hkk _ _ (h.kid x s hs)
end Go.Proofs.YtdgknofpkafppaaDoor

/- Forests: each call leaves a forest. No program. -/
namespace Go.Proofs.YtdgknofpkafppaaDoor
open Go Go.RowKit

theorem mem_un1_sg {k : Int} {l : List Int} : k ∈ un1 (sg l) ↔ k ∈ l := by rw [un1_sg]
theorem mem_outL {k id : Int} {l : List (List Int)} (h : k ∈ un1 (outL id l)) : k ∈ un1 l ∧ k ≠ id := by
  obtain ⟨y, hy, rfl⟩ := List.mem_map.1 h
  obtain ⟨h1, h2⟩ := List.mem_filter.1 hy
  exact ⟨List.mem_map_of_mem h1, by simpa using h2⟩
theorem Kok.pe {F : Fo} {x : Int} {s t : Sf} (h : Kok F x s) (h1 : t.pe.od = s.pe.od) (h2 : t.ca = s.ca) (h3 : t.no = s.no) : Kok F x t := fun k hk => h k (by rw [← h1, ← h2, ← h3]; exact hk)
theorem kok_lat {F : Fo} {x : Int} {s : Sf} (h : Kok F x s) {k : Int} (hk : k ∈ un1 (lat s)) (h0 : k ≠ 0) : ∃ c, gt F k = some c ∧ c.par = x := by
  unfold lat at hk
  cases h1 : s.pe.ord with
  | true => rw [h1] at hk; exact h k (.inl hk) h0
  | false =>
    rw [h1] at hk
    cases h2 : s.ca.ord with
    | true => rw [h2] at hk; exact h k (.inr (.inl hk)) h0
    | false => rw [h2] at hk; exact h k (.inr (.inr hk)) h0
theorem kok_ord {F : Fo} {x : Int} {s : Sf} (h : Kok F x s) {l : List Int} (hl : ∀ k ∈ l, k ≠ 0 → ∃ c, gt F k = some c ∧ c.par = x) : Kok F x (ordS (sg l) s) := fun k hk h0 => by
  rcases hk with hk | hk | hk
  · exact hl k (mem_un1_sg.1 hk) h0
  · exact h k (.inr (.inl hk)) h0
  · exact h k (.inr (.inr hk)) h0

/-- What turns pending alone, and not its order. -/
theorem Inv.pend {F : Fo} (h : Inv F) (id : Int) (f : Sf → Sf) (hf : ∀ s, (f s).par = s.par ∧ (f s).syn = s.syn ∧ (f s).pe.od = s.pe.od ∧ (f s).ca = s.ca ∧ (f s).no = s.no) : Inv (upd F id f) :=
  h.turn id f (fun s => ⟨(hf s).1, (hf s).2.1⟩) fun s hs => (h.kid id s hs).pe (hf s).2.2.1 (hf s).2.2.2.1 (hf s).2.2.2.2
theorem Inv.att {F : Fo} (h : Inv F) (id b : Int) : Inv (upd F id (attS b)) := h.pend id _ fun _ => ⟨rfl, rfl, rfl, rfl, rfl⟩
theorem Inv.dmg {F : Fo} (h : Inv F) (id : Int) (r : List Int) : Inv (upd F id (dmgS r)) := h.pend id _ fun _ => ⟨rfl, rfl, rfl, rfl, rfl⟩
theorem Inv.frm {F : Fo} (h : Inv F) (id c : Int) : Inv (upd F id (frmS c)) := h.pend id _ fun _ => ⟨rfl, rfl, rfl, rfl, rfl⟩
theorem Inv.inp {F : Fo} (h : Inv F) (id : Int) (a : Bool) (l : List (List Int)) : Inv (upd F id (inpS a l)) := h.pend id _ fun _ => ⟨rfl, rfl, rfl, rfl, rfl⟩
theorem Inv.plc {F : Fo} (h : Inv F) (id : Int) (c : List Int) : Inv (upd F id (plcS c)) := h.pend id _ fun _ => ⟨rfl, rfl, rfl, rfl, rfl⟩
theorem Inv.posn {F : Fo} (h : Inv F) (id x y : Int) : Inv (posF F id x y) := by
  unfold posF
  split
  · exact h
  · split
    · exact h
    · exact h.plc _ _
theorem Inv.tak {F : Fo} (h : Inv F) (id : Int) : Inv (upd F id takS) := h.turn id takS (fun _ => ⟨rfl, rfl⟩) fun s hs k hk => h.kid id s hs k hk

theorem mem_bes {l m : List Int} {id by_ : Int} {b : Nat} (h : bes l id by_ b = some m) : ∀ k ∈ m, k ∈ l := fun k hk => by
  unfold bes at h
  cases hx : zx id l with
  | none => rw [hx] at h; cases h
  | some t =>
    rw [hx] at h
    obtain ⟨i, _, rfl⟩ := Option.map_eq_some_iff.1 h
    unfold ins at hk
    rcases List.mem_append.1 hk with hk | hk
    · exact (mem_dr.1 (List.mem_of_mem_take hk)).1
    · rcases List.mem_cons.1 hk with rfl | hk
      · exact List.mem_of_getElem? (zx_some hx).2.1
      · exact (mem_dr.1 (List.mem_of_mem_drop hk)).1
theorem putL_some {F : Fo} {id by_ : Int} {b : Nat} {p : Int} {m : List Int} (h : putL F id by_ b = some (p, m)) : ∃ s q, gt F id = some s ∧ s.par = p ∧ p ≠ 0 ∧ gt F p = some q ∧ ∀ k ∈ m, k ∈ un1 (lat q) := by
  unfold putL at h
  split at h
  · cases h
  · rename_i s hs
    split at h
    · cases h
    · rename_i h0
      split at h
      · cases h
      · rename_i q hq
        split at h
        · obtain ⟨m', hm, e⟩ := Option.map_eq_some_iff.1 h
          cases e
          exact ⟨s, q, hs, rfl, h0, hq, mem_bes hm⟩
        · split at h
          · cases h
          · obtain ⟨m', hm, e⟩ := Option.map_eq_some_iff.1 h
            cases e
            exact ⟨s, q, hs, rfl, h0, hq, mem_bes hm⟩
theorem Inv.put {F : Fo} (h : Inv F) (id by_ : Int) (b : Nat) : Inv (putF F id by_ b) := by
  unfold putF
  split
  · exact h
  · rename_i p m hp
    obtain ⟨s, q, hs, hsp, h0, hq, hm⟩ := putL_some hp
    refine h.turn p _ (fun _ => ⟨rfl, rfl⟩) fun q' hq' => ?_
    rw [hq] at hq'
    cases hq'
    exact kok_ord (h.kid p q hq) fun k hk hk0 => kok_lat (h.kid p q hq) (hm k hk) hk0

theorem Inv.add {F : Fo} (h : Inv F) (id : Int) : Inv (addF F id) := by
  unfold addF
  split
  · rename_i he
    unfold addE at he
    split at he
    · cases he
    · rename_i h1
      split at he
      · cases he
      · rename_i h2
        split at he
        · cases he
        · rename_i h3
          have hn : gt F id = none := by simpa using h2
          have hg : ∀ x, gt (F ++ [(id, sf0)]) x = if x = id then some sf0 else gt F x := fun x => by
            rw [gt_app]
            by_cases hx : x = id
            · subst hx
              rw [hn]
              simp
            · rw [if_neg hx]
              cases hgx : gt F x with
              | none => simp [show id ≠ x from fun e => hx e.symm]
              | some s => simp
          have hold : ∀ x s, gt F x = some s → gt (F ++ [(id, sf0)]) x = some s := fun x s hs => by
            rw [hg, if_neg (fun e => by rw [e, hn] at hs; cases hs)]
            exact hs
          have hkeys : keys (F ++ [(id, sf0)]) = keys F ++ [id] := by simp [keys]
          have hidn : id ∉ keys F := gt_none.1 hn
          have hanc : ∀ x y, Anc (F ++ [(id, sf0)]) x y → Anc F x y ∨ (x = id ∧ y = id) := fun x y ha => by
            induction ha with
            | self h1 =>
              rw [hg] at h1
              split at h1
              · rename_i e
                exact .inr ⟨e, e⟩
              · exact .inl (.self h1)
            | up h1 h2 ih =>
              rw [hg] at h1
              split at h1
              · cases h1
                have := h2.has
                rw [hg] at this
                split at this
                · rename_i e
                  exact absurd e.symm (by show id ≠ 0; omega)
                · rw [show (sf0.par) = 0 from rfl, h.zero] at this
                  cases this
              · rcases ih with ih | ⟨e1, e2⟩
                · exact .inl (.up h1 ih)
                · rename_i x' id' s' hne
                  have hp0 : s'.par ≠ 0 := by rw [e1]; omega
                  obtain ⟨q, hq⟩ := h.acy.par _ _ h1 hp0
                  rw [e1, hn] at hq
                  cases hq
          refine ⟨?_, ?_, ?_, ⟨fun x s hs ha => ?_, fun x s hs hp => ?_⟩, fun x s hs k hk h0 => ?_⟩
          · rw [hkeys, List.nodup_append]
            refine ⟨h.nod, by simp, fun a ha b hb e => ?_⟩
            simp only [List.mem_singleton] at hb
            exact hidn (by rw [← hb, ← e]; exact ha)
          · intro x hx
            rw [hkeys, List.mem_append] at hx
            rcases hx with hx | hx
            · exact h.pos x hx
            · simp only [List.mem_singleton] at hx
              omega
          · rw [List.length_append, List.length_singleton]
            omega
          · rw [hg] at hs
            split at hs
            · cases hs
              have := ha.has
              rw [hg] at this
              split at this
              · rename_i e
                exact absurd e.symm (by show id ≠ 0; omega)
              · rw [show (sf0.par) = 0 from rfl, h.zero] at this
                cases this
            · rename_i hne
              rcases hanc _ _ ha with ha | ⟨_, e⟩
              · exact h.acy.no x s hs ha
              · exact hne e
          · rw [hg] at hs
            split at hs
            · cases hs
              exact absurd rfl hp
            · obtain ⟨q, hq⟩ := h.acy.par x s hs hp
              exact ⟨q, hold _ _ hq⟩
          · rw [hg] at hs
            split at hs
            · cases hs
              rcases hk with hk | hk | hk
              · cases hk
              · cases hk
              · have : k = 0 := by simpa [un1, sf0, sqA, hd] using hk
                exact absurd this h0
            · obtain ⟨c, h4, h5⟩ := h.kid x s hs k hk h0
              exact ⟨c, hold _ _ h4, h5⟩
  · exact h
end Go.Proofs.YtdgknofpkafppaaDoor
