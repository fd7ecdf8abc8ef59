/- What a queue has: bytes in a row of one's own that may begin behind its block's begin ('Ow'): appended to, cut. Over any program. -/
import Derived.Test.YtmcbbpcbebbjdaaDoorLibA
import Derived.Test.YtmcbbpcbebbjdaaDoorLibK
namespace Go.Proofs.YtmcbbpcbebbjdaaDoor
open Go Go.RowKit

/-- The slice v holds the bytes l; its block has cells as far as its capacity goes, and is one of those from base on. -/
def Ow (w : World) (base : Nat) (e : TypeId) (v : Value) (l : List UInt8) : Prop :=
  (v = .slice none 0 0 ∧ l = []) ∨ ∃ g off cap cur, v = .slice (some ⟨g, off, none⟩) l.length cap ∧ base ≤ g ∧ w.heap[g]? = some (.cells cur e (0, 0)) ∧ l.length ≤ cap ∧ cap ≤ maxLen ∧ cur.size = off + cap ∧ (cur.toList.drop off).take l.length = bc l

section
variable {w w' : World} {base e : Nat} {v : Value} {l : List UInt8}

theorem Ow.nil (w : World) (base : Nat) (e : TypeId) : Ow w base e (.slice none 0 0) [] := .inl ⟨rfl, rfl⟩

theorem Ow.lt {e : TypeId} (h : Ow w base e v l) {k : Nat} (hk : v.ownBlock = some k) : base ≤ k ∧ k < w.heap.size := by
  rcases h with ⟨rfl, _⟩ | ⟨g, off, cap, cur, rfl, hb, hg, _⟩
  · cases hk
  · cases hk
    exact ⟨hb, (Array.getElem?_eq_some_iff.1 hg).1⟩

theorem Ow.kp {e : TypeId} (h : Ow w base e v l) {X : List Nat} (hk : Kp X w w') (hX : ∀ k, v.ownBlock = some k → k ∉ X) : Ow w' base e v l := by
  rcases h with q | ⟨g, off, cap, cur, rfl, hb, hg, hr⟩
  · exact .inl q
  · exact .inr ⟨g, off, cap, cur, rfl, hb, hk.var hg (hX g rfl), hr⟩

theorem Ow.set {e : TypeId} (h : Ow w base e v l) (p : Addr) (hp : v.ownBlock ≠ some p.block) (u : Value) : Ow (w.setCell p u) base e v l :=
  h.kp ((Kp.refl [p.block] w).set p (by simp) u) (fun k hk hm => by
    simp only [List.mem_cons, List.not_mem_nil, or_false] at hm
    exact hp (by rw [hk, hm]))

theorem Ow.cells {e : TypeId} {g off : Nat} {cur : Array Value} (hg : w.heap[g]? = some (.cells cur e (0, 0))) (ht : (cur.toList.drop off).take l.length = bc l) : ∀ j u, (bc l)[j]? = some u → w.cell? ((⟨g, off, none⟩ : Addr).add j) = some u := fun j u hu => by
  rw [← ht] at hu
  rw [Go.WideShapes.add_plain]
  rcases Nat.lt_or_ge j l.length with h | h
  · rw [List.getElem?_take_of_lt h, List.getElem?_drop, Array.getElem?_toList] at hu
    simp only [World.cell?, hg]
    exact hu
  · rw [List.getElem?_take_eq_none h] at hu
    cases hu

theorem Ow.rd {e : TypeId} (h : Ow w base e v l) : ∃ a c, v = .slice a l.length c ∧ Rd w a l.length c l ∧ (∀ x, a = some x → base ≤ x.block ∧ x.block < w.heap.size) := by
  rcases h with ⟨rfl, rfl⟩ | ⟨g, off, cap, cur, rfl, hb, hg, hn, hm, hs, ht⟩
  · exact ⟨none, 0, rfl, Rd.nil w, fun x hx => by cases hx⟩
  · exact ⟨some ⟨g, off, none⟩, cap, rfl, ⟨rfl, hn, hm, (fun h => by cases h), fun x hx => by cases hx; exact Ow.cells hg ht⟩, fun x hx => by
      cases hx
      exact ⟨hb, (Array.getElem?_eq_some_iff.1 hg).1⟩⟩

/-- Cut at n: what comes behind. -/
theorem Ow.cut {e : TypeId} {g off cap m : Nat} (h : Ow w base e (.slice (some ⟨g, off, none⟩) m cap) l) (n : Nat) (hn : n ≤ l.length) : m = l.length ∧ l.length ≤ cap ∧ cap ≤ maxLen ∧ Ow w base e (.slice (some ⟨g, off + n, none⟩) (m - n) (cap - n)) (l.drop n) := by
  rcases h with ⟨hv, _⟩ | ⟨g', off', cap', cur, hv, hb, hg, hc, hm, hs, ht⟩
  · cases hv
  · cases hv
    refine ⟨rfl, hc, hm, .inr ⟨g, off + n, cap - n, cur, by rw [List.length_drop], hb, hg, by rw [List.length_drop]; omega, by omega, by omega, ?_⟩⟩
    rw [List.length_drop, ← List.drop_drop, ← List.drop_take, ht, bc, bc, List.map_drop]
end

section
variable {P : Program} (w : World)

theorem run_append_room_ow (t tx ty e : TypeId) (i : TypeInfo) (ht : P.underlying t = some (.slice e)) (hi : P.info? e = some i)
    (g off sLen sCap : Nat) (cur : Array Value) (hg : w.heap[g]? = some (.cells cur e (0, 0)))
    (x : Value) (m : Nat) (news : List Value) (hs : Src P i.size tx x m news w)
    (hroom : sLen + m ≤ sCap) (hfit : off + sLen * i.size + news.length ≤ cur.size) :
    (Builtin.append_ #[t, tx] ty #[.slice (some ⟨g, off, none⟩) sLen sCap, x]).run P w =
      .ok (.slice (some ⟨g, off, none⟩) (sLen + m) sCap) (w.setRow g (cur.toList.take (off + sLen * i.size) ++ news ++ cur.toList.drop (off + sLen * i.size + news.length)).toArray) := by
  have hst := run_storeCells_at P g (off + sLen * i.size) e news 0 cur w hg (by simpa using hfit) hs.one
  simp only [Nat.add_zero] at hst
  rcases hs.kind with ⟨e', hk⟩ | hk <;> simp [Builtin.append_, run_underlying ht, run_underlying hk, sizeOf, typeInfo, hi, hs.len, hroom, hs.cells, Addr.add_lit, hst]

/-- An append onto such a row, or onto nil. -/
theorem run_append_ow (base : Nat) (t tx ty e : TypeId) (i : TypeInfo) (z : Value) (ht : P.underlying t = some (.slice e)) (hi : P.info? e = some i) (hz : i.zero = some z)
    (hsize : i.size = 1) (hby : i.bytes = 1) (hzs : z.cells.size = 1)
    (v : Value) (l : List UInt8) (hown : Ow w base e v l)
    (x : Value) (m : Nat) (b : List UInt8) (hs : Src P 1 tx x m (bc b) w)
    (h63 : l.length + m ≤ 1000000) (hbase : base ≤ w.heap.size) :
    ∃ v' w', (Builtin.append_ #[t, tx] ty #[v, x]).run P w = .ok v' w' ∧ Ow w' base e v' (l ++ b) ∧ w.grownBy w' v.ownBlock ∧ (v'.ownBlock = v.ownBlock ∨ v'.ownBlock = some w.heap.size) := by
  have hl : b.length = m := by have := hs.newsLen; rw [bc_length] at this; omega
  have hm0 : l.length + m ≤ maxLen := by simp only [maxLen]; omega
  have hs' : Src P i.size tx x m (bc b) w := by rw [hsize]; exact hs
  have grown : ∀ (old : Nat), old < l.length + m → ∀ (row : Option Nat),
      Ow (w.drew.alloc (.cells ((bc l ++ bc b).toArray ++ Builtin.zeroCells z.cells (grownCap w (l.length + m) old e - (l.length + m))) e)) base e
        (.slice (some ⟨w.heap.size, 0, none⟩) (l.length + m) (grownCap w (l.length + m) old e)) (l ++ b) ∧
      w.grownBy (w.drew.alloc (.cells ((bc l ++ bc b).toArray ++ Builtin.zeroCells z.cells (grownCap w (l.length + m) old e - (l.length + m))) e)) row := by
    intro old ho row
    have hge := grownCap_ge w (l.length + m) old e
    have hcm : grownCap w (l.length + m) old e ≤ maxLen := grownCap_le_maxLen w (l.length + m) old e hm0
    refine ⟨.inr ⟨w.heap.size, 0, _, _, by rw [List.length_append, hl], hbase, _root_.Go.heap_alloc_new w.drew _, by rw [List.length_append, hl]; exact hge, hcm, ?_, ?_⟩, ⟨rfl, rfl, rfl, by simp, fun k hk _ => Below.heap_alloc w.drew _ k hk⟩⟩
    · simp only [Array.size_append, List.size_toArray, size_zeroCells, hzs, List.length_append, bc_length, hl]
      omega
    · simp only [Array.toList_append, List.drop_zero]
      rw [← bc_append, ← bc_length]
      exact List.take_left
  rcases hown with ⟨rfl, rfl⟩ | ⟨g, off, cap, cur, rfl, hbg, hg, hnc, hcm, hcs, htake⟩
  · by_cases hm : m = 0
    · subst hm
      obtain rfl : b = [] := List.eq_nil_of_length_eq_zero hl
      refine ⟨.slice none 0 0, w, ?_, .inl ⟨rfl, rfl⟩, ⟨rfl, rfl, rfl, Nat.le_refl _, fun _ _ _ => rfl⟩, .inl rfl⟩
      rcases hs.kind with ⟨e', hk⟩ | hk <;> simp [Builtin.append_, run_underlying ht, run_underlying hk, sizeOf, typeInfo, hi, hs'.len, hs'.cells, bc]
    · have hr := run_append_grow_src (P := P) w t tx ty e i z ht hi hz none 0 0 [] (run_firstCells_none w.drew i.size 0 0 0) x m (bc b) hs' (by omega) (by simp only [maxLen] at hm0; simp only [List.length_nil] at hm0; omega) (by rw [hby]; exact fits1 (need := 0 + m) (by simp only [List.length_nil] at h63; omega) 0 (by omega))
      have hgr := grown 0 (by simp only [List.length_nil]; omega) (Value.ownBlock (.slice none 0 0))
      simp only [List.length_nil] at hgr
      exact ⟨_, _, hr, hgr.1, hgr.2, .inr rfl⟩
  · by_cases hroom : l.length + m ≤ cap
    · have hfit : off + l.length * i.size + (bc b).length ≤ cur.size := by rw [bc_length, hl, hcs, hsize]; omega
      have hr := run_append_room_ow (P := P) w t tx ty e i ht hi g off l.length cap cur hg x m (bc b) hs' hroom hfit
      refine ⟨_, _, hr, .inr ⟨g, off, cap, _, by rw [List.length_append, hl], hbg, setRow_heap w g cur _ e _ hg, by rw [List.length_append, hl]; exact hroom, hcm, ?_, ?_⟩, ⟨rfl, rfl, rfl, by simp, fun k _ hk => setRow_other w g k _ (fun e => hk (by simp [Value.ownBlock, e]))⟩, .inl rfl⟩
      · rw [bc_length, hl, hsize] at hfit
        simp only [List.size_toArray, List.length_append, List.length_take, List.length_drop, Array.length_toList, bc_length, hl, hsize]
        omega
      · have hcl : cur.toList.length = off + cap := by rw [Array.length_toList]; exact hcs
        have hfo : off ≤ cur.toList.length := by omega
        have hfl : off + l.length ≤ cur.toList.length := by omega
        rw [hsize, Nat.mul_one, List.append_assoc, List.drop_append_of_le_length (by rw [List.length_take]; omega), List.drop_take, Nat.add_sub_cancel_left, htake, ← List.append_assoc, ← bc_append, ← bc_length (l ++ b)]
        exact List.take_left
    · have hold := run_firstCells_some (P := P) w.drew i.size l.length ⟨g, off, none⟩ l.length cap (bc l) (by rw [bc_length, hsize, Nat.mul_one]) (by simpa using Ow.cells hg htake)
      have hr := run_append_grow_src (P := P) w t tx ty e i z ht hi hz (some ⟨g, off, none⟩) l.length cap (bc l) hold x m (bc b) hs' (by omega) (by simp only [maxLen] at hm0; omega) (by rw [hby]; exact fits1 (by omega) cap (by omega))
      have hgr := grown cap (by omega) (Value.ownBlock (.slice (some ⟨g, off, none⟩) l.length cap))
      exact ⟨_, _, hr, hgr.1, hgr.2, .inr rfl⟩

theorem wpList_append_ow {ops : Array Oper} {rest : List Oper} {o : Oper} {a : Act} {Q : Exit → Act → World → Prop} (hgd : o.guard = none) (s x : Operand) (t tx : TypeId)
    (ho : o.op = .call { callee := .builtin .append, args := #[s, x], argTypes := #[t, tx] })
    (base : Nat) (e : TypeId) (i : TypeInfo) (z : Value) (ht : P.underlying t = some (.slice e)) (hi : P.info? e = some i) (hz : i.zero = some z)
    (hsize : i.size = 1) (hby : i.bytes = 1) (hzs : z.cells.size = 1)
    (v : Value) (l : List UInt8) (hs : a.eval s = v) (hown : Ow w base e v l)
    (xv : Value) (m : Nat) (b : List UInt8) (hx : a.eval x = xv) (hsrc : Src P 1 tx xv m (bc b) w)
    (h63 : l.length + m ≤ 1000000) (hbase : base ≤ w.heap.size)
    (h : ∀ v' w', Ow w' base e v' (l ++ b) → w.grownBy w' v.ownBlock → (v'.ownBlock = v.ownBlock ∨ v'.ownBlock = some w.heap.size) → wpList P ops Q rest (a.put o.dst v') w') : wpList P ops Q (o :: rest) a w :=
  wpList_plain hgd fun K hK => by
    obtain ⟨v', w', hr, h2, h3, h4⟩ := run_append_ow (P := P) w base t tx o.type e i z ht hi hz hsize hby hzs v l hown xv m b hsrc h63 hbase
    unfold Oper.wp execOp
    simp only [ho, resolve, invoke, builtin, Sem.run_bind, Sem.run_pure, Result.andThen_ok, List.map_toArray, List.map_cons, List.map_nil, hs, hx, hr]
    exact hK _ _ (h v' w' h2 h3 h4)
end
end Go.Proofs.YtmcbbpcbebbjdaaDoor
