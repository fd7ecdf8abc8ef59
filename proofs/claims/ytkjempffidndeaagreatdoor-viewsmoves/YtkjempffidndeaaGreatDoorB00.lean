/- Lemmas that the proof leans on. -/
import Derived.Deep.AppendSrc
import Derived.Lib.SlBytesRow
import Derived.Deep.RegionHeldLaw
import Derived.Lib.SmallJoins
import Derived.Deep.DeepCutAuto
namespace Go.Proofs.YtkjempffidndeaaGreatDoor
open Go Go.RowKit
set_option maxRecDepth 100000
section
theorem hid {p : Prop} (h : p) : Hid p := h
theorem Below.on {w w1 w2 : World} (h : Below w.heap.size w w1) (h2 : Below w1.heap.size w1 w2) : Below w.heap.size w w2 := h.trans (h2.mono h.size)
theorem ownsRow_low {w : World} {base base' e size n : Nat} {v : Value} {xs : List Value} (h : w.ownsRow base e size v n xs) (hb : base' ≤ base) : w.ownsRow base' e size v n xs := by
 refine ⟨h.1, ?_⟩
 rcases h.2 with q | ⟨g, cap, cur, e1, e2, e3⟩
 ·exact .inl q
 ·exact .inr ⟨g, cap, cur, e1, by omega, e3⟩
theorem ownsRow_below {w w' : World} {base e size n : Nat} {v : Value} {xs : List Value} (h : w.ownsRow base e size v n xs) (hb : Below w.heap.size w w') : w'.ownsRow base e size v n xs := by
 refine ⟨h.1, ?_⟩
 rcases h.2 with q | ⟨g, cap, cur, e1, e2, e3, e4⟩
 ·exact .inl q
 ·exact .inr ⟨g, cap, cur, e1, e2, by rw [hb.block _ (Array.getElem?_eq_some_iff.1 e3).1]; exact e3, e4⟩
theorem below_drewN {u v : World} {B : Nat} (h : Below B u v) (q : Nat) : Below B u (v.drewN q) := ⟨h.os, h.tape, h.output, h.size, h.block⟩
structure Kp (X : List Nat) (w w' : World) : Prop where
 os : w'.os = w.os
 tape : w'.tape = w.tape
 output : w'.output = w.output
 size : w.heap.size ≤ w'.heap.size
 block : ∀ k, k < w.heap.size → k ∉ X → w'.heap[k]? = w.heap[k]?
theorem Kp.below {X : List Nat} {w w' : World} {B : Nat} (h : Kp X w w') (hB : B ≤ w.heap.size) (hX : ∀ k ∈ X, B ≤ k) : Below B w w' :=
 ⟨h.os, h.tape, h.output, h.size, fun k hk => h.block k (by omega) (fun hm => by have := hX k hm; omega)⟩
theorem kp_of_below {w w' : World} (h : Below w.heap.size w w') (X : List Nat) : Kp X w w' := ⟨h.os, h.tape, h.output, h.size, fun k hk _ => h.block k hk⟩
theorem kp_of_grown {w w' : World} {row : Option Nat} (h : w.grownBy w' row) : Kp row.toList w w' :=
 ⟨h.os, h.tape, h.output, h.size, fun k hk hn => h.block k hk (fun e => hn (by rw [← e]; simp))⟩
theorem Kp.trans {X Y : List Nat} {w w1 w2 : World} (h : Kp X w w1) (h1 : Kp Y w1 w2) (hY : ∀ k ∈ Y, k < w.heap.size → k ∈ X) : Kp X w w2 :=
 ⟨h1.os.trans h.os, h1.tape.trans h.tape, h1.output.trans h.output, Nat.le_trans h.size h1.size, fun k hk hn => by
  rw [h1.block k (Nat.lt_of_lt_of_le hk h.size) (fun hm => hn (hY k hm hk))]
  exact h.block k hk hn⟩
theorem Kp.mono {X Y : List Nat} {w w1 : World} (h : Kp X w w1) (hY : ∀ k ∈ X, k < w.heap.size → k ∈ Y) : Kp Y w w1 :=
 ⟨h.os, h.tape, h.output, h.size, fun k hk hn => h.block k hk (fun hm => hn (hY k hm hk))⟩
theorem Kp.set {X : List Nat} {w w1 : World} (h : Kp X w w1) (p : Addr) (hp : p.block ∈ X) (u : Value) : Kp X w (w1.setCell p u) :=
 h.trans (Y := [p.block]) ⟨rfl, rfl, rfl, by simp [World.setCell], fun k _ hn => Below.heap_setCell _ _ _ _ (fun e => hn (by simp [e]))⟩ (fun k hk _ => by
  simp only [List.mem_cons, List.not_mem_nil, or_false] at hk
  rw [hk]
  exact hp)
theorem Kp.var {X : List Nat} {w w' : World} (h : Kp X w w') {k : Nat} {o : Obj} (ho : w.heap[k]? = some o) (hn : k ∉ X) : w'.heap[k]? = some o := by
 rw [h.block k (Array.getElem?_eq_some_iff.1 ho).1 hn]
 exact ho
theorem Kp.row {X : List Nat} {w w' : World} (h : Kp X w w') {base e size n : Nat} {v : Value} {xs : List Value} (ho : w.ownsRow base e size v n xs) (hn : ∀ k, v.ownBlock = some k → k ∉ X) : w'.ownsRow base e size v n xs := by
 refine ⟨ho.1, ?_⟩
 rcases ho.2 with q | ⟨g, cap, cur, rfl, e2, e3, e4⟩
 ·exact .inl q
 ·exact .inr ⟨g, cap, cur, rfl, e2, h.var e3 (hn g rfl), e4⟩
theorem ownsRow_set {w : World} {base e size n : Nat} {v : Value} {xs : List Value} (h : w.ownsRow base e size v n xs) (p : Addr) (hp : v.ownBlock ≠ some p.block) (u : Value) : (w.setCell p u).ownsRow base e size v n xs :=
 ((kp_of_below (Below.refl _ _) [p.block]).set p (by simp) u).row h (fun k hk hm => by
  simp only [List.mem_cons, List.not_mem_nil, or_false] at hm
  exact hp (by rw [hk, hm]))
theorem kp_turned {w w' : World} {b : Nat} (h : w.mapTurned w' b) : Kp [b] w w' := kp_of_grown h.grown
theorem Kp.refl (X : List Nat) (w : World) : Kp X w w := kp_of_below (Below.refl _ _) X
theorem Kp.cell {X : List Nat} {w w' : World} (h : Kp X w w') {a : Addr} {v : Value} (hc : w.cell? a = some v) (hn : a.block ∉ X) : w'.cell? a = some v := by
 rw [← hc]
 simp only [World.cell?, h.block a.block (World.block_lt_of_cell? w _ hc) hn]
end
section
theorem nextslicecap_near {need old : Nat} (h : old < need) : Builtin.nextslicecap need old ≤ need + need / 4 + 512 := by
 unfold Builtin.nextslicecap
 split
 ·omega
 ·split
  ·omega
  ·rw [growBy_four]
   repeat' split
   all_goals omega
section
variable {P : Program} (w : World)
theorem run_append_room_own (t tx ty e : TypeId) (i : TypeInfo) (ht : P.underlying t = some (.slice e)) (hi : P.info? e = some i)
  (g sLen sCap : Nat) (cur : Array Value) (hg : w.heap[g]? = some (.cells cur e (0, 0)))
  (x : Value) (m : Nat) (news : List Value) (hs : Src P i.size tx x m news w)
  (hroom : sLen + m ≤ sCap) (hfit : sLen * i.size + news.length ≤ cur.size) :
  (Builtin.append_ #[t, tx] ty #[.slice (some ⟨g, 0, none⟩) sLen sCap, x]).run P w =
   .ok (.slice (some ⟨g, 0, none⟩) (sLen + m) sCap) (w.setRow g (cur.toList.take (sLen * i.size) ++ news ++ cur.toList.drop (sLen * i.size + news.length)).toArray) := by
 have hst := run_storeCells_at P g (sLen * i.size) e news 0 cur w hg (by simpa using hfit) hs.one
 simp only [Nat.add_zero] at hst
 rcases hs.kind with ⟨e', hk⟩ | hk <;> simp [Builtin.append_, run_underlying ht, run_underlying hk, sizeOf, typeInfo, hi, hs.len, hroom, hs.cells, Addr.add_lit, hst]
theorem run_append_own_src (base : Nat) (t tx ty e : TypeId) (i : TypeInfo) (z : Value) (size bytes : Nat) (ht : P.underlying t = some (.slice e)) (hi : P.info? e = some i) (hz : i.zero = some z)
  (hsize : i.size = size) (hby : i.bytes = bytes) (hzs : z.cells.size = size)
  (v : Value) (n : Nat) (xs : List Value) (hown : w.ownsRow base e size v n xs)
  (x : Value) (m : Nat) (news : List Value) (hs : Src P size tx x m news w)
  (h63 : n + m ≤ maxLen) (hbytes : ∀ old, old < n + m → Builtin.nextslicecap (n + m) old * bytes ≤ 281474976710656) (hbase : base ≤ w.heap.size) :
  ∃ v' w', (Builtin.append_ #[t, tx] ty #[v, x]).run P w = .ok v' w' ∧ w'.ownsRow base e size v' (n + m) (xs ++ news) ∧ w.grownBy w' v.ownBlock := by
 subst hsize
 subst hby
 have hl := hs.newsLen
 have hsmall : n + m ≤ 9223372036854775807 := by simp only [maxLen] at h63; omega
 have hlen : (xs ++ news).length = (n + m) * i.size := by rw [List.length_append, hown.1, hl, Nat.add_mul]
 have grown : ∀ (old : Nat), old < n + m → ∀ (row : Option Nat),
   (w.drew.alloc (.cells ((xs ++ news).toArray ++ Builtin.zeroCells z.cells (grownCap w (n + m) old e - (n + m))) e)).ownsRow base e i.size
    (.slice (some ⟨w.heap.size, 0, none⟩) (n + m) (grownCap w (n + m) old e)) (n + m) (xs ++ news) ∧
   w.grownBy (w.drew.alloc (.cells ((xs ++ news).toArray ++ Builtin.zeroCells z.cells (grownCap w (n + m) old e - (n + m))) e)) row := by
  intro old ho row
  have hge := grownCap_ge w (n + m) old e
  have hcm : grownCap w (n + m) old e ≤ maxLen := grownCap_le_maxLen w (n + m) old e h63
  refine ⟨⟨hlen, .inr ⟨w.heap.size, _, _, rfl, hbase, _root_.Go.heap_alloc_new w.drew _, hge, hcm, ?_, ?_⟩⟩, ⟨rfl, rfl, rfl, by simp, fun k hk _ => Below.heap_alloc w.drew _ k hk⟩⟩
  ·simp only [Array.size_append, List.size_toArray, size_zeroCells, hzs, hlen, ← Nat.add_mul]
   congr 1
   omega
  ·simp only [Array.toList_append]
   rw [← hlen]
   exact List.take_left
 rcases hown.2 with ⟨rfl, rfl⟩ | ⟨g, cap, cur, rfl, hbg, hg, hnc, hcm, hcs, htake⟩
 ·have hx : xs = [] := List.eq_nil_of_length_eq_zero (by simpa using hown.1)
  subst hx
  by_cases hm : m = 0
  ·subst hm
   have hn : news = [] := List.eq_nil_of_length_eq_zero (by simpa using hl)
   subst hn
   refine ⟨.slice none 0 0, w, ?_, World.ownsRow_nil w base e i.size, ⟨rfl, rfl, rfl, Nat.le_refl _, fun _ _ _ => rfl⟩⟩
   rcases hs.kind with ⟨e', hk⟩ | hk <;> simp [Builtin.append_, run_underlying ht, run_underlying hk, sizeOf, typeInfo, hi, hs.len, hs.cells]
  ·have hr := run_append_grow_src (P := P) w t tx ty e i z ht hi hz none 0 0 [] (run_firstCells_none w.drew i.size 0 0 0) x m news hs (by omega) (by omega) (hbytes _ (by omega))
   have hgr := grown 0 (by omega) (Value.ownBlock (.slice none 0 0))
   exact ⟨_, _, hr, hgr.1, hgr.2⟩
 ·by_cases hroom : n + m ≤ cap
  ·have hfit : n * i.size + news.length ≤ cur.size := by rw [hl, hcs, ← Nat.add_mul]; exact Nat.mul_le_mul_right _ hroom
   have hr := run_append_room_own (P := P) w t tx ty e i ht hi g n cap cur hg x m news hs hroom hfit
   refine ⟨_, _, hr, ⟨hlen, .inr ⟨g, cap, _, rfl, hbg, setRow_heap w g cur _ e _ hg, hroom, hcm, ?_, ?_⟩⟩, ⟨rfl, rfl, rfl, by simp, fun k _ hk => setRow_other w g k _ (fun e => hk (by simp [Value.ownBlock, e]))⟩⟩
   ·simp only [List.size_toArray, List.length_append, List.length_take, List.length_drop, Array.length_toList]
    omega
   ·rw [htake, ← hlen]
    exact List.take_left
  ·have holds : ∀ j u, xs[j]? = some u → w.cell? ((⟨g, 0, none⟩ : Addr).add j) = some u := hown.cells (g := g) rfl
   have hold := run_firstCells_some (P := P) w.drew i.size n ⟨g, 0, none⟩ n cap xs hown.1 (by simpa using holds)
   have hr := run_append_grow_src (P := P) w t tx ty e i z ht hi hz (some ⟨g, 0, none⟩) n cap xs hold x m news hs (by omega) (by omega) (hbytes _ (by omega))
   have hgr := grown cap (by omega) (Value.ownBlock (.slice (some ⟨g, 0, none⟩) n cap))
   exact ⟨_, _, hr, hgr.1, hgr.2⟩
theorem wpList_append_own_src {ops : Array Oper} {rest : List Oper} {o : Oper} {a : Act} {Q : Exit → Act → World → Prop} (hgd : o.guard = none) (s x : Operand) (t tx : TypeId)
  (ho : o.op = .call { callee := .builtin .append, args := #[s, x], argTypes := #[t, tx] })
  (base : Nat) (e : TypeId) (i : TypeInfo) (z : Value) (size bytes : Nat) (ht : P.underlying t = some (.slice e)) (hi : P.info? e = some i) (hz : i.zero = some z)
  (hsize : i.size = size) (hby : i.bytes = bytes) (hzs : z.cells.size = size)
  (v : Value) (n : Nat) (xs : List Value) (hs : a.eval s = v) (hown : w.ownsRow base e size v n xs)
  (xv : Value) (m : Nat) (news : List Value) (hx : a.eval x = xv) (hsrc : Src P size tx xv m news w)
  (h63 : n + m ≤ maxLen) (hbytes : ∀ old, old < n + m → Builtin.nextslicecap (n + m) old * bytes ≤ 281474976710656) (hbase : base ≤ w.heap.size)
  (h : ∀ v' w', w'.ownsRow base e size v' (n + m) (xs ++ news) → w.grownBy w' v.ownBlock → wpList P ops Q rest (a.put o.dst v') w') : wpList P ops Q (o :: rest) a w :=
 wpList_plain hgd fun K hK => by
  obtain ⟨v', w', hr, h2, h3⟩ := run_append_own_src (P := P) w base t tx o.type e i z size bytes ht hi hz hsize hby hzs v n xs hown xv m news hsrc h63 hbytes hbase
  unfold Oper.wp execOp
  simp only [ho, resolve, invoke, builtin, Sem.run_bind, Sem.run_pure, Result.andThen_ok, List.map_toArray, List.map_cons, List.map_nil, hs, hx, hr]
  exact hK _ _ (h v' w' h2 h3)
end
end
section
open Go Go.ChangeShapes Go.WideShapes Go.ChangeAt Go.RowKit Go.Deep
structure RdN (m : Nat) (w : World) (a : Option Addr) (n c : Nat) (l : List (List Int)) : Prop where
 len : l.length = n
 le : n ≤ c
 max : c ≤ maxLen
 hnil : a = none → c = 0
 cells : ∀ x, a = some x → ∀ j y, l[j]? = some y → ∀ i z, y[i]? = some z → w.cell? (x.add (j * m + i)) = some (.int .i64 z)
 size : ∀ y ∈ l, y.length = m
 wf : ∀ y ∈ l, ∀ z ∈ y, (Lit.int .i64 z).wf = true
def numsB (P : Program) (fs : Array Field) : Bool := (List.range fs.size).all fun i => match fs[i]? with
 | some f => decide (f.offset = i) && decide (P.cellsOf f.type = 1) && (match P.underlying f.type with | some (.int .i64) => true | _ => false)
 | none => false
def numOf : Value → Int
 | .int _ a => a
 | _ => 0
variable {H : Type} {enc : TypeId × Value → H} {W : World} {P : Program}
theorem numsB_at {fs : Array Field} (h : numsB P fs = true) {i : Nat} {f : Field} (hi : fs[i]? = some f) : f.offset = i ∧ P.cellsOf f.type = 1 ∧ P.underlying f.type = some (.int .i64) := by
 have hlt : i < fs.size := (Array.getElem?_eq_some_iff.1 hi).1
 have := List.all_eq_true.1 h i (List.mem_range.2 hlt)
 rw [hi] at this
 simp only [Bool.and_eq_true, decide_eq_true_eq] at this
 refine ⟨this.1.1, this.1.2, ?_⟩
 have h3 := this.2
 split at h3
 ·assumption
 ·cases h3
theorem open_nums {t : TypeId} {fs : Array Field} (ht : P.underlying t = some (.struct fs)) (hc : P.cellsOf t = fs.size) (hf : numsB P fs = true) {n : Nat} {cs : List Value} {x : DataW H × List MemPlace}
  (h : DataW.trod enc P W 0 (fun _ => true) true n t cs = some x) : ∃ y : List Int, y.length = fs.size ∧ cs = y.map (Value.int .i64) ∧ ∀ z ∈ y, (Lit.int .i64 z).wf = true := by
 obtain ⟨xs, k, _, _, hl, hlen, hx⟩ := DataW.trod_struct ht h
 rw [hc] at hl
 have each : ∀ i, i < fs.size → ∃ a, cs[i]? = some (.int .i64 a) ∧ (Lit.int .i64 a).wf = true := fun i hi => by
  obtain ⟨f, hfi⟩ : ∃ f, fs[i]? = some f := ⟨_, Array.getElem?_eq_getElem hi⟩
  obtain ⟨h1, h2, h3⟩ := numsB_at hf hfi
  have hd := hx i f (by rw [← Array.getElem?_toList] at hfi; first | exact hfi | simpa using hfi)
  obtain ⟨yi, hyi⟩ : ∃ y, xs[i]? = some y := ⟨_, List.getElem?_eq_getElem (by rw [hlen]; first | exact hi | simpa using hi)⟩
  rw [h1, h2, hyi] at hd
  obtain ⟨a, e0, _, w0⟩ := DataW.trod_int h3 hd
  refine ⟨a, ?_, w0⟩
  have : ((cs.drop i).take 1)[0]? = some (.int .i64 a) := by rw [e0]; rfl
  rw [List.getElem?_take_of_lt (by omega), List.getElem?_drop] at this
  simpa using this
 refine ⟨cs.map numOf, by rw [List.length_map, hl], ?_, fun z hz => ?_⟩
 ·apply List.ext_getElem?
  intro i
  rw [List.getElem?_map, List.getElem?_map]
  rcases Nat.lt_or_ge i fs.size with hi | hi
  ·obtain ⟨a, h1, _⟩ := each i hi
   rw [h1]
   rfl
  ·rw [List.getElem?_eq_none (by omega)]
   rfl
 ·obtain ⟨v, hv, rfl⟩ := List.mem_map.1 hz
  obtain ⟨i, hi⟩ := List.mem_iff_getElem?.1 hv
  have hlt : i < fs.size := by rw [← hl]; exact (List.getElem?_eq_some_iff.1 hi).1
  obtain ⟨a, h1, h2⟩ := each i hlt
  rw [hi] at h1
  cases h1
  exact h2
theorem open_structs {T E : TypeId} {fs : Array Field} {m : Nat} (hT : P.underlying T = some (.slice E)) (ht : P.underlying E = some (.struct fs)) (hm0 : fs.size = m) (hc : P.cellsOf E = m) (hf : numsB P fs = true) {d : DataW H} {p : List MemPlace}
  {a : Option Addr} {n c : Nat} (h : DataW.Trod enc P W 0 (fun _ => true) true T (.slice a n c) d p) : ∃ l, RdN m W a n c l := by
 subst hm0
 obtain ⟨fuel, hf'⟩ := h
 rcases open_slice hT hf' with ⟨hcs, _⟩ | ⟨a, len, cap, mm, k, D, Pl, hcs, hb, hl, hm, hmm, _, hx⟩
 ·simp [Value.cells] at hcs
  obtain ⟨rfl, rfl, rfl⟩ := hcs
  exact ⟨[], rfl, Nat.le_refl _, Nat.zero_le _, fun _ => rfl, (fun _ h => by cases h), (fun _ h => by cases h), fun _ h => by cases h⟩
 ·simp [Value.cells] at hcs
  obtain ⟨rfl, rfl, rfl⟩ := hcs
  simp only [if_true] at hmm
  subst hmm
  rw [hc] at hx
  have each : ∀ i, i < n → ∃ y : List Int, y.length = fs.size ∧ (∀ z ∈ y, (Lit.int .i64 z).wf = true) ∧ ∀ q z, y[q]? = some z → W.cell? (a.add (i * fs.size + q)) = some (.int .i64 z) := fun i hi => by
   obtain ⟨cs', h1, h2⟩ := hx i (by omega)
   obtain ⟨y, hy, rfl, hw⟩ := open_nums ht hc hf h2
   refine ⟨y, hy, hw, fun q z hq => ?_⟩
   obtain ⟨_, _, hcc⟩ := World.cells?_some h1
   have hlt : q < fs.size := by rw [← hy]; exact (List.getElem?_eq_some_iff.1 hq).1
   have := hcc q hlt
   rw [List.getElem?_map, hq, add_add] at this
   exact this
  obtain ⟨f, hfn⟩ := choose_lt (α := List Int) each
  have mem : ∀ y ∈ (List.range n).map f, ∃ i, i < n ∧ y = f i := fun y hy => by
   obtain ⟨i, hi, rfl⟩ := List.mem_map.1 hy
   exact ⟨i, List.mem_range.1 hi, rfl⟩
  refine ⟨(List.range n).map f, by simp, hl, hm, (fun h => by cases h), fun y hy j z hj q u hu => ?_, fun y hy => ?_, fun y hy => ?_⟩
  ·cases hy
   rw [List.getElem?_map] at hj
   obtain ⟨i, hi, rfl⟩ := Option.map_eq_some_iff.1 hj
   have hlt : j < n := by
    rcases Nat.lt_or_ge j n with h' | h'
    ·exact h'
    ·rw [List.getElem?_eq_none (by simpa using h')] at hi; cases hi
   rw [List.getElem?_range hlt] at hi
   cases hi
   exact (hfn j hlt).2.2 q u hu
  ·obtain ⟨i, hi, rfl⟩ := mem y hy
   exact (hfn i hi).1
  ·obtain ⟨i, hi, rfl⟩ := mem y hy
   exact (hfn i hi).2.1
theorem RdN.at_ {m : Nat} {w : World} {a : Option Addr} {n c : Nat} {l : List (List Int)} (h : RdN m w a n c l) (hm : 0 < m) (j : Nat) (hj : j < n) : ∃ b off y, a = some ⟨b, off, none⟩ ∧ b < w.heap.size ∧ l[j]? = some y ∧ y.length = m ∧ (∀ z ∈ y, -9223372036854775808 ≤ z ∧ z ≤ 9223372036854775807) ∧ ∀ i z, y[i]? = some z → w.cell? ⟨b, off + (j * m + i), none⟩ = some (.int .i64 z) := by
 have hl := h.len
 obtain ⟨y, hy⟩ : ∃ y, l[j]? = some y := ⟨_, List.getElem?_eq_getElem (by omega)⟩
 have hmem := List.mem_of_getElem? hy
 cases a with
 | none => have := h.hnil rfl; have := h.le; omega
 | some x =>
  obtain ⟨b, off, spot⟩ := x
  have hsz := h.size y hmem
  have hspot : spot = none := by
   obtain ⟨y0, hy0⟩ : ∃ y, l[0]? = some y := ⟨_, List.getElem?_eq_getElem (by omega)⟩
   have h0 := h.size y0 (List.mem_of_getElem? hy0)
   have := h.cells _ rfl 0 y0 hy0 0 _ (List.getElem?_eq_getElem (by omega))
   simpa [Addr.add] using World.cell?_spot this
  subst hspot
  have hc := h.cells _ rfl j y hy
  refine ⟨b, off, y, rfl, ?_, hy, hsz, fun z hz => ?_, fun i z hi => ?_⟩
  ·have := hc 0 _ (List.getElem?_eq_getElem (by omega))
   rw [Go.WideShapes.add_plain] at this
   exact World.block_lt_of_cell? w _ this
  ·have := h.wf y hmem z hz
   simpa [Lit.wf, IntKind.min, IntKind.max, IntKind.signed, IntKind.bits] using this
  ·rw [← Go.WideShapes.add_plain]
   exact hc i z hi
end
section
structure RdM (m : Nat) (w : World) (a : Option Addr) (n c : Nat) (l : List (List Int)) : Prop where
 len : l.length = n
 le : n ≤ c
 max : c ≤ maxLen
 hnil : a = none → c = 0
 pl : 0 < n → ∃ b off, a = some ⟨b, off, none⟩ ∧ b < w.heap.size ∧ ∀ j y, l[j]? = some y → ∀ i z, y[i]? = some z → w.cell? ⟨b, off + (j * m + i), none⟩ = some (.int .i64 z)
 size : ∀ y ∈ l, y.length = m
theorem RdM.on {m : Nat} {w u : World} {a : Option Addr} {n c : Nat} {l : List (List Int)} (h : RdM m w a n c l) (hb : Below w.heap.size w u) : RdM m u a n c l :=
 ⟨h.len, h.le, h.max, h.hnil, fun hn => by
  obtain ⟨b, off, e, h1, h2⟩ := h.pl hn
  exact ⟨b, off, e, Nat.lt_of_lt_of_le h1 hb.size, fun j y hy i z hz => by rw [hb.cell h1]; exact h2 j y hy i z hz⟩, h.size⟩
theorem RdM.kp {m : Nat} {w u : World} {a : Option Addr} {n c : Nat} {l : List (List Int)} (h : RdM m w a n c l) {X : List Nat} (hb : Kp X w u) (hX : ∀ x, a = some x → 0 < n → x.block ∉ X) : RdM m u a n c l :=
 ⟨h.len, h.le, h.max, h.hnil, fun hn => by
  obtain ⟨b, off, e, h1, h2⟩ := h.pl hn
  exact ⟨b, off, e, Nat.lt_of_lt_of_le h1 hb.size, fun j y hy i z hz => hb.cell (h2 j y hy i z hz) (hX ⟨b, off, none⟩ e hn)⟩, h.size⟩
theorem RdM.nil (m : Nat) (w : World) : RdM m w none 0 0 [] := ⟨rfl, Nat.le_refl _, Nat.zero_le _, fun _ => rfl, fun h => absurd h (by omega), by simp⟩
theorem RdM.small {m : Nat} {w : World} {a : Option Addr} {n c : Nat} {l : List (List Int)} (h : RdM m w a n c l) : n ≤ 9223372036854775807 ∧ c ≤ 9223372036854775807 := by
 have h1 := h.le
 have h2 := h.max
 simp only [maxLen] at h2
 omega
theorem RdM.drewN {m : Nat} {w : World} {a : Option Addr} {n c : Nat} {l : List (List Int)} (h : RdM m w a n c l) (q : Nat) : RdM m (w.drewN q) a n c l := h.on (below_drewN (Below.refl _ _) q)
theorem RdM.at_ {m : Nat} {w : World} {a : Option Addr} {n c : Nat} {l : List (List Int)} (h : RdM m w a n c l) {j : Nat} (hj : j < n) : ∃ b off y, a = some ⟨b, off, none⟩ ∧ b < w.heap.size ∧ l[j]? = some y ∧ y.length = m ∧ ∀ i z, y[i]? = some z → w.cell? ⟨b, off + (j * m + i), none⟩ = some (.int .i64 z) := by
 have hl := h.len
 obtain ⟨b, off, e, h1, h2⟩ := h.pl (by omega)
 have hr : l[j]? = some l[j] := List.getElem?_eq_getElem (by omega)
 exact ⟨b, off, _, e, h1, hr, h.size _ (List.mem_of_getElem? hr), h2 j _ hr⟩
theorem RdM.el3 {w : World} {a : Option Addr} {n c : Nat} {l : List (List Int)} (h : RdM 3 w a n c l) {j : Nat} (hj : j < n) : ∃ b off z0 z1 z2, a = some ⟨b, off, none⟩ ∧ b < w.heap.size ∧ l[j]? = some [z0, z1, z2] ∧ w.cell? ⟨b, off + j * 3, none⟩ = some (.int .i64 z0) ∧ w.cell? ⟨b, off + j * 3 + 1, none⟩ = some (.int .i64 z1) ∧ w.cell? ⟨b, off + j * 3 + 2, none⟩ = some (.int .i64 z2) := by
 obtain ⟨b, off, y, e, h1, h2, h3, h4⟩ := h.at_ hj
 match y, h3 with
 | [z0, z1, z2], _ => exact ⟨b, off, z0, z1, z2, e, h1, h2, by simpa using h4 0 z0 rfl, by simpa [Nat.add_assoc] using h4 1 z1 rfl, by simpa [Nat.add_assoc] using h4 2 z2 rfl⟩
theorem RdM.el4 {w : World} {a : Option Addr} {n c : Nat} {l : List (List Int)} (h : RdM 4 w a n c l) {j : Nat} (hj : j < n) : ∃ b off z0 z1 z2 z3, a = some ⟨b, off, none⟩ ∧ b < w.heap.size ∧ l[j]? = some [z0, z1, z2, z3] ∧ w.cell? ⟨b, off + j * 4, none⟩ = some (.int .i64 z0) ∧ w.cell? ⟨b, off + j * 4 + 1, none⟩ = some (.int .i64 z1) ∧ w.cell? ⟨b, off + j * 4 + 2, none⟩ = some (.int .i64 z2) ∧ w.cell? ⟨b, off + j * 4 + 3, none⟩ = some (.int .i64 z3) := by
 obtain ⟨b, off, y, e, h1, h2, h3, h4⟩ := h.at_ hj
 match y, h3 with
 | [z0, z1, z2, z3], _ => exact ⟨b, off, z0, z1, z2, z3, e, h1, h2, by simpa using h4 0 z0 rfl, by simpa [Nat.add_assoc] using h4 1 z1 rfl, by simpa [Nat.add_assoc] using h4 2 z2 rfl, by simpa [Nat.add_assoc] using h4 3 z3 rfl⟩
theorem rdm_of_rdn {m : Nat} (hm : 0 < m) {w : World} {a : Option Addr} {n c : Nat} {l : List (List Int)} (h : RdN m w a n c l) : RdM m w a n c l := by
 refine ⟨h.len, h.le, h.max, h.hnil, fun hn => ?_, h.size⟩
 obtain ⟨b, off, y, e, h1, _⟩ := h.at_ hm 0 hn
 refine ⟨b, off, e, h1, fun j y hy i z hz => ?_⟩
 have := h.cells _ e j y hy i z hz
 rwa [Go.WideShapes.add_plain] at this
def mcs (l : List (List Int)) : List Value := l.flatMap fun y => y.map (Value.int .i64)
theorem mcs_cons (y : List Int) (l : List (List Int)) : mcs (y :: l) = y.map (Value.int .i64) ++ mcs l := rfl
theorem mcs_append (a b : List (List Int)) : mcs (a ++ b) = mcs a ++ mcs b := by simp [mcs]
theorem mcs_length {m : Nat} {l : List (List Int)} (h : ∀ y ∈ l, y.length = m) : (mcs l).length = l.length * m := by
 induction l with
 | nil => simp [mcs]
 | cons y l ih =>
  rw [mcs_cons, List.length_append, List.length_map, ih fun z hz => h z (by simp [hz]), h y (by simp), List.length_cons, Nat.add_mul, Nat.one_mul, Nat.add_comm]
theorem mcs_one (l : List (List Int)) : ∀ u ∈ mcs l, u.oneCell' = true := by
 intro u hu
 obtain ⟨x, _, hx⟩ := List.mem_flatMap.1 hu
 obtain ⟨z, _, rfl⟩ := List.mem_map.1 hx
 rfl
theorem mcs_at {m : Nat} {l : List (List Int)} (h : ∀ y ∈ l, y.length = m) {j : Nat} {y : List Int} (hj : l[j]? = some y) {i : Nat} {z : Int} (hi : y[i]? = some z) : (mcs l)[j * m + i]? = some (.int .i64 z) := by
 induction l generalizing j with
 | nil => simp at hj
 | cons x l ih =>
  have hx := h x (by simp)
  rw [mcs_cons]
  cases j with
  | zero =>
   simp only [List.getElem?_cons_zero, Option.some.injEq] at hj
   subst hj
   have : i < x.length := (List.getElem?_eq_some_iff.1 hi).1
   rw [Nat.zero_mul, Nat.zero_add, List.getElem?_append_left (by simpa using this), List.getElem?_map, hi]
   rfl
  | succ j =>
   rw [List.getElem?_append_right (by rw [List.length_map, hx, Nat.succ_mul]; omega), List.length_map, hx, show (j + 1) * m + i - m = j * m + i by rw [Nat.succ_mul]; omega]
   exact ih (fun z hz => h z (by simp [hz])) (by simpa using hj)
theorem mcs_inv {m : Nat} {l : List (List Int)} (h : ∀ y ∈ l, y.length = m) {k : Nat} {u : Value} (hu : (mcs l)[k]? = some u) : ∃ j i y z, k = j * m + i ∧ l[j]? = some y ∧ y[i]? = some z ∧ u = .int .i64 z := by
 have hk : k < l.length * m := by
  rw [← mcs_length h]
  exact (List.getElem?_eq_some_iff.1 hu).1
 have hm : 0 < m := by
  rcases Nat.eq_zero_or_pos m with h0 | h0
  ·rw [h0] at hk; omega
  ·exact h0
 have hj : k / m < l.length := by rw [Nat.div_lt_iff_lt_mul hm]; exact hk
 have e1 : l[k / m]? = some l[k / m] := List.getElem?_eq_getElem hj
 have hl := h _ (List.mem_of_getElem? e1)
 have e2 : l[k / m][k % m]? = some (l[k / m][k % m]'(by rw [hl]; exact Nat.mod_lt _ hm)) := List.getElem?_eq_getElem _
 have e3 : k = k / m * m + k % m := by rw [Nat.mul_comm]; exact (Nat.div_add_mod k m).symm
 refine ⟨k / m, k % m, _, _, e3, e1, e2, ?_⟩
 have := mcs_at h e1 e2
 rw [← e3, hu] at this
 simpa using this
theorem RdM.src {P : Program} {m : Nat} {w : World} {a : Option Addr} {n c : Nat} {l : List (List Int)} (h : RdM m w a n c l) {t e : TypeId} (ht : P.underlying t = some (.slice e)) : Src P m t (.slice a n c) n (mcs l) w := by
 have h3 := h.len
 cases a with
 | none =>
  have h1 := h.hnil rfl
  have h2 := h.le
  obtain rfl : n = 0 := by omega
  obtain rfl : l = [] := List.eq_nil_of_length_eq_zero h3
  exact Src.ofNil w ht c
 | some x =>
  refine Src.ofSlice w ht x n c (mcs l) (by rw [mcs_length h.size, h3]) (fun j u hu => ?_) (mcs_one l)
  rcases Nat.eq_zero_or_pos n with h0 | h0
  ·obtain rfl : l = [] := List.eq_nil_of_length_eq_zero (by omega)
   simp [mcs] at hu
  ·obtain ⟨b, off, e1, _, h2⟩ := h.pl h0
   cases e1
   rw [Go.WideShapes.add_plain]
   obtain ⟨p, q, y, z, rfl, hp, hq, rfl⟩ := mcs_inv h.size hu
   exact h2 p y hp q z hq
structure OwM (m e : Nat) (w u : World) (v : Value) (l : List (List Int)) : Prop where
 own : u.ownsRow w.heap.size e m v l.length (mcs l)
 bel : Below w.heap.size w u
 size : ∀ y ∈ l, y.length = m
theorem OwM.on {m e : Nat} {w u u' : World} {v : Value} {l : List (List Int)} (h : OwM m e w u v l) (hb : Below u.heap.size u u') : OwM m e w u' v l := ⟨ownsRow_below h.own hb, Below.on h.bel hb, h.size⟩
theorem OwM.base {m e : Nat} {w w0 u : World} {v : Value} {l : List (List Int)} (h : OwM m e w u v l) (hb : Below w0.heap.size w0 w) : OwM m e w0 u v l := ⟨ownsRow_low h.own hb.size, Below.on hb h.bel, h.size⟩
theorem OwM.nil (m e : Nat) (w : World) : OwM m e w w (.slice none 0 0) [] := ⟨World.ownsRow_nil _ _ _ _, Below.refl _ _, by simp⟩
theorem OwM.grown {m e : Nat} {w u u' : World} {v v' : Value} {l k : List (List Int)} (h : OwM m e w u v l) (hk : ∀ y ∈ k, y.length = m) (o2 : u'.ownsRow w.heap.size e m v' (l.length + k.length) (mcs l ++ mcs k)) (g : u.grownBy u' v.ownBlock) : OwM m e w u' v' (l ++ k) :=
 ⟨by rw [List.length_append, mcs_append]; exact o2, h.bel.grown g h.bel.size (fun k hk => (h.own.lt k hk).1), fun y hy => by
  rcases List.mem_append.1 hy with hy | hy
  ·exact h.size y hy
  ·exact hk y hy⟩
theorem OwM.rd {m e : Nat} {w u : World} {v : Value} {l : List (List Int)} (h : OwM m e w u v l) : ∃ a c, v = .slice a l.length c ∧ RdM m u a l.length c l ∧ ∀ x, a = some x → w.heap.size ≤ x.block ∧ x.block < u.heap.size := by
 rcases h.own.2 with ⟨rfl, h0⟩ | ⟨g, cap, cur, rfl, hb, hg, hn, hm, _, _⟩
 ·have hl := List.eq_nil_of_length_eq_zero h0
  subst hl
  exact ⟨none, 0, rfl, RdM.nil m u, fun x hx => by cases hx⟩
 ·refine ⟨some ⟨g, 0, none⟩, cap, rfl, ⟨rfl, hn, hm, (fun h => by cases h), fun _ => ⟨g, 0, rfl, (h.own.lt g rfl).2, fun j y hy i z hz => ?_⟩, h.size⟩, fun x hx => ?_⟩
  ·have hlt : j * m + i < l.length * m := by
    rw [← mcs_length h.size]
    exact (List.getElem?_eq_some_iff.1 (mcs_at h.size hy hz)).1
   rw [Nat.zero_add, h.own.cellAt _ hlt]
   exact mcs_at h.size hy hz
  ·cases hx
   exact ⟨hb, (Array.getElem?_eq_some_iff.1 hg).1⟩
def hd (y : List Int) : Int := y.getD 0 0
theorem hd3 (a b c : Int) : hd [a, b, c] = a := rfl
def ixf (k : Int) : List (List Int) → Option Nat
 | [] => none
 | x :: l => if hd x = k then some 0 else (ixf k l).map (· + 1)
def ixI (k : Int) (l : List (List Int)) : Int := match ixf k l with
 | some i => i
 | none => -1
def put1 : List (List Int) → List Int → List (List Int)
 | [], c => [c]
 | x :: l, c => if hd x = hd c then c :: l else x :: put1 l c
def puts (l m : List (List Int)) : List (List Int) := m.foldl put1 l
def fnd (k : Int) : List (List Int) → Option (List Int)
 | [] => none
 | x :: l => if hd x = k then some x else fnd k l
theorem drop_at' {α : Type} {l : List α} {j : Nat} {x : α} (h : l[j]? = some x) : l.drop j = x :: l.drop (j + 1) := by
 obtain ⟨hj, rfl⟩ := List.getElem?_eq_some_iff.1 h
 exact List.drop_eq_getElem_cons hj
theorem ixf_drop {k : Int} {l : List (List Int)} : ∀ {j : Nat}, (∀ i y, i < j → l[i]? = some y → hd y ≠ k) → ixf k l = (ixf k (l.drop j)).map (· + j)
 | 0, _ => by simp
 | j + 1, h => by
  rw [ixf_drop (j := j) fun i y hi hy => h i y (by omega) hy]
  cases hd' : l[j]? with
  | none =>
   have : l.length ≤ j := List.getElem?_eq_none_iff.1 hd'
   rw [List.drop_eq_nil_of_le this, List.drop_eq_nil_of_le (by omega)]
   rfl
  | some y =>
   rw [drop_at' hd', ixf, if_neg (h j y (by omega) hd')]
   cases ixf k (l.drop (j + 1)) with
   | none => rfl
   | some i => simp; omega
theorem ixf_none {k : Int} : ∀ {l : List (List Int)}, ixf k l = none → (∀ y ∈ l, hd y ≠ k) ∧ fnd k l = none
 | [], _ => ⟨by simp, rfl⟩
 | x :: l, h => by
  rw [ixf] at h
  split at h
  ·cases h
  ·rename_i hx
   obtain ⟨h1, h2⟩ := ixf_none (l := l) (by simpa using h)
   refine ⟨fun y hy => ?_, by rw [fnd, if_neg hx, h2]⟩
   rcases List.mem_cons.1 hy with rfl | hy
   ·exact hx
   ·exact h1 y hy
theorem ixf_some {k : Int} : ∀ {l : List (List Int)} {i : Nat}, ixf k l = some i → i < l.length ∧ fnd k l = l[i]? ∧ ∀ c, hd c = k → put1 l c = l.set i c
 | [], _, h => by cases h
 | x :: l, i, h => by
  rw [ixf] at h
  split at h
  ·rename_i hx
   cases h
   refine ⟨by simp, by rw [fnd, if_pos hx]; rfl, fun c hc => ?_⟩
   rw [put1, if_pos (by rw [hx, hc])]
   rfl
  ·rename_i hx
   obtain ⟨m, hm, rfl⟩ := Option.map_eq_some_iff.1 h
   obtain ⟨h1, h2, h3⟩ := ixf_some hm
   refine ⟨by simpa using h1, by rw [fnd, if_neg hx, h2]; rfl, fun c hc => ?_⟩
   rw [put1, if_neg (by rw [hc]; exact hx), h3 c hc]
   rfl
theorem put1_none {l : List (List Int)} {c : List Int} (h : ∀ y ∈ l, hd y ≠ hd c) : put1 l c = l ++ [c] := by
 induction l with
 | nil => rfl
 | cons x l ih =>
  rw [put1, if_neg (h x (by simp)), ih fun y hy => h y (by simp [hy])]
  rfl
theorem put1_length {l : List (List Int)} {c : List Int} : l.length ≤ (put1 l c).length ∧ (put1 l c).length ≤ l.length + 1 := by
 induction l with
 | nil => simp [put1]
 | cons x l ih =>
  rw [put1]
  split
  ·simp
  ·simp only [List.length_cons]; omega
theorem puts_snoc (l m : List (List Int)) (c : List Int) : puts l (m ++ [c]) = put1 (puts l m) c := by simp [puts]
theorem puts_cons (l m : List (List Int)) (c : List Int) : puts l (c :: m) = puts (put1 l c) m := rfl
theorem puts_length (l m : List (List Int)) : (puts l m).length ≤ l.length + m.length := by
 induction m generalizing l with
 | nil => simp [puts]
 | cons c m ih =>
  have h1 := ih (put1 l c)
  have h2 := (put1_length (l := l) (c := c)).2
  rw [puts_cons]
  simp only [List.length_cons]
  omega
theorem mem_put1 {l : List (List Int)} {c y : List Int} (h : y ∈ put1 l c) : y = c ∨ y ∈ l := by
 induction l with
 | nil => simp [put1] at h; exact .inl h
 | cons x l ih =>
  rw [put1] at h
  split at h
  ·rcases List.mem_cons.1 h with rfl | h
   ·exact .inl rfl
   ·exact .inr (by simp [h])
  ·rcases List.mem_cons.1 h with rfl | h
   ·exact .inr (by simp)
   ·rcases ih h with e | e
    ·exact .inl e
    ·exact .inr (by simp [e])
structure Sq where
 at_ : Bool
 buf : Int
 dm : List (List Int)
 fr : List (List Int)
 inp : Bool
 all : Bool
 rg : List (List Int)
 ord : Bool
 od : List (List Int)
 pl : List (List Int)
def mrg (a b : Sq) : Sq := ⟨a.at_ || b.at_, bif b.at_ then b.buf else a.buf, a.dm ++ b.dm, a.fr ++ b.fr, a.inp || b.inp, bif b.inp then b.all else a.all, bif b.inp then b.rg else a.rg, a.ord || b.ord, bif b.ord then b.od else a.od, puts a.pl b.pl⟩
def apl (a b : Sq) : Sq := { mrg a b with at_ := false, inp := false, ord := false, dm := [] }
def non (s : Sq) : Bool := !s.at_ && (!s.inp && (!s.ord && (s.dm.isEmpty && (s.fr.isEmpty && s.pl.isEmpty))))
def few (s : Sq) : Bool := decide (s.dm.length ≤ 60) && (decide (s.fr.length ≤ 60) && (decide (s.rg.length ≤ 60) && (decide (s.od.length ≤ 60) && decide (s.pl.length ≤ 60))))
def sq0 : Sq := ⟨false, 0, [], [], false, false, [], false, [], []⟩
end
end Go.Proofs.YtkjempffidndeaaGreatDoor
