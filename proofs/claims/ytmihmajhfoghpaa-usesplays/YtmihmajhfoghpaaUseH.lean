/- Both uses, the program's and the document's, beside one another. -/
import Derived.Test.YtmihmajhfoghpaaUseG
namespace Go.Proofs.Ytmihmajhfoghpaa
open Go Go.RowKit

/-- The program's uses at p (L, told), the document's at q (M, said), all made since w; blocks of K are nobody's. -/
structure Ub (w x : World) (p q : Nat) (L told M said : List Int) (K : List Nat) : Prop where
  ex : ∃ a b vL vT, Ust x p a b L told ∧ Udst x q vL vT M said ∧ (∀ k, k = p ∨ k = a ∨ k = b → w.heap.size ≤ k ∧ k ≠ q ∧ vL.ownBlock ≠ some k ∧ vT.ownBlock ≠ some k) ∧ w.heap.size ≤ q ∧ (∀ k, vL.ownBlock = some k ∨ vT.ownBlock = some k → w.heap.size ≤ k) ∧ (∀ k ∈ K, k < x.heap.size ∧ k ≠ p ∧ k ≠ a ∧ k ≠ b ∧ k ≠ q ∧ vL.ownBlock ≠ some k ∧ vT.ownBlock ≠ some k)
  bel : Below w.heap.size w x
  nl : L.length ≤ 1000000
  nt : told.length ≤ 900000000
  nm : M.length ≤ 1000000
  ns : said.length ≤ 900000000

variable {w x y : World} {p q : Nat} {L told M said zs : List Int} {K : List Nat}

theorem Ub.more (h : Ub w x p q L told M said K) (hb : Below x.heap.size x y) {J : List Nat} (hJ : ∀ k ∈ J, x.heap.size ≤ k ∧ k < y.heap.size) : Ub w y p q L told M said (J ++ K) := by
  obtain ⟨a, b, vL, vT, h1, h2, h3, h4, h5, h6⟩ := h.ex
  have hl := h1.lt
  have hq := h2.lt
  refine ⟨⟨a, b, vL, vT, h1.on hb, h2.on hb, h3, h4, h5, fun k hk => ?_⟩, Below.on h.bel hb, h.nl, h.nt, h.nm, h.ns⟩
  rcases List.mem_append.1 hk with hk | hk
  · have := hJ k hk
    refine ⟨this.2, by omega, by omega, by omega, by omega, fun e => ?_, fun e => ?_⟩
    · have := (h2.rl.lt k e).2
      omega
    · have := (h2.rt.lt k e).2
      omega
  · exact ⟨Nat.lt_of_lt_of_le (h6 k hk).1 hb.size, (h6 k hk).2⟩
theorem Ub.on (h : Ub w x p q L told M said K) (hb : Below x.heap.size x y) : Ub w y p q L told M said K := h.more (J := []) hb (by simp)
theorem Ub.drop (h : Ub w x p q L told M said K) {J : List Nat} (hJ : ∀ k ∈ J, k ∈ K) : Ub w x p q L told M said J := by
  obtain ⟨a, b, vL, vT, h1, h2, h3, h4, h5, h6⟩ := h.ex
  exact ⟨⟨a, b, vL, vT, h1, h2, h3, h4, h5, fun k hk => h6 k (hJ k hk)⟩, h.bel, h.nl, h.nt, h.nm, h.ns⟩

/-- What a call that tells numbers answers: their row; K stands. -/
def Told (x : World) (K : List Nat) (G : List Int) (St : List Nat → World → Prop) (e : Ending) (y : World) : Prop :=
  ∃ v, e = .returned v ∧ y.ownsRow x.heap.size 3 1 v G.length (G.map encZ) ∧ St (v.ownBlock.toList ++ K) y ∧ (∀ k ∈ K, y.heap[k]? = x.heap[k]?)

theorem Ub.now (h : Ub w x p q L told M said K) (s : Option Addr) (n c : Nat) (hr : RdI .i64 x s n c zs) (hn : n ≤ 1000000) (ht : told.length ≤ 800000000) :
    Calls Try.prog 9 #[.pointer (some ⟨p, 0, none⟩), .slice s n c] x fun e y => Told x K (gone L zs) (fun J y => Ub w y p q (setOf zs) (told ++ gone L zs) M said J) e y := by
  obtain ⟨a, b, vL, vT, h1, h2, h3, h4, h5, h6⟩ := h.ex
  have hl := h1.lt
  have hq := h2.lt
  have nl := h.nl
  have nt := h.nt
  refine (unow_any h1 s n c zs hr hn h.nl (by omega)).mono ?_
  rintro e y ⟨v, rfl, hv, ⟨a', ha', hU⟩, hk⟩
  have hs := h.bel.size
  have g1 := h3 p (.inl rfl)
  have g2 := h3 a (.inr (.inl rfl))
  have g3 := h3 b (.inr (.inr rfl))
  have hX : ∀ k, k ≠ p → k ≠ a → k ≠ b → k ∉ [p, a, b] := fun k e1 e2 e3 => by simp [e1, e2, e3]
  have hD : Udst y q vL vT M said := h2.kept hk (hX q (fun e => g1.2.1 e.symm) (fun e => g2.2.1 e.symm) (fun e => g3.2.1 e.symm))
    (fun k e => hX k (fun e' => g1.2.2.1 (by rw [e, e'])) (fun e' => g2.2.2.1 (by rw [e, e'])) (fun e' => g3.2.2.1 (by rw [e, e'])))
    (fun k e => hX k (fun e' => g1.2.2.2 (by rw [e, e'])) (fun e' => g2.2.2.2 (by rw [e, e'])) (fun e' => g3.2.2.2 (by rw [e, e'])))
  have hLb : ∀ k, vL.ownBlock = some k → k < x.heap.size := fun k e => (h2.rl.lt k e).2
  have hTb : ∀ k, vT.ownBlock = some k → k < x.heap.size := fun k e => (h2.rt.lt k e).2
  have hlen := gone_length L zs
  refine ⟨v, rfl, hv, ⟨⟨a', b, vL, vT, hU, hD, fun k hk' => ?_, h4, h5, fun k hk' => ?_⟩, h.bel.trans (hk.below hs (fun k hm => by
    simp only [List.mem_cons, List.not_mem_nil, or_false] at hm
    rcases hm with rfl | rfl | rfl
    · exact g1.1
    · exact g2.1
    · exact g3.1)), Nat.le_trans (setOf_length zs) (by rw [hr.len]; exact hn), by rw [List.length_append]; omega, h.nm, h.ns⟩, fun k hk' => ?_⟩
  · rcases hk' with rfl | rfl | rfl
    · exact g1
    · exact ⟨by omega, by omega, fun e => by have := hLb _ e; omega, fun e => by have := hTb _ e; omega⟩
    · exact g3
  · rcases List.mem_append.1 hk' with hk' | hk'
    · have hkv : v.ownBlock = some k := by simpa using hk'
      have hlt := hv.lt k hkv
      refine ⟨hlt.2, by omega, fun e => ?_, by omega, by omega, fun e => by have := hLb _ e; omega, fun e => by have := hTb _ e; omega⟩
      obtain ⟨D, ho, _⟩ := hU.hown
      obtain ⟨es, clock, hb, _⟩ := ho
      rcases hv.2 with ⟨rfl, _⟩ | ⟨g, cap, cur, rfl, _, hg, _⟩
      · cases hkv
      · simp only [Value.ownBlock, Option.some.injEq] at hkv
        subst hkv e
        rw [hb] at hg
        cases hg
    · have g := h6 k hk'
      have := hk.size
      exact ⟨by omega, g.2.1, by omega, g.2.2.2.1, g.2.2.2.2⟩
  · have g := h6 k hk'
    exact hk.block k g.1 (hX k g.2.1 g.2.2.1 g.2.2.2.1)

theorem Ub.rnow (h : Ub w x p q L told M said K) (s : Option Addr) (n c : Nat) (hr : RdI .i64 x s n c zs) (hn : n ≤ 1000000) (ht : said.length ≤ 800000000) :
    Calls Try.prog 11 #[.pointer (some ⟨q, 0, none⟩), .slice s n c] x fun e y => ∃ v, e = .returned v ∧ y.ownsRow x.heap.size 3 1 v (gone M zs).length ((gone M zs).map encZ) ∧ Ub w y p q L told (setOf zs) (said ++ gone M zs) K ∧ ∀ k ∈ K, y.heap[k]? = x.heap[k]? := by
  obtain ⟨a, b, vL, vT, h1, h2, h3, h4, h5, h6⟩ := h.ex
  have hl := h1.lt
  have hq := h2.lt
  have nm := h.nm
  refine (rnow_any h2 s n c zs hr hn h.nm (by omega)).mono ?_
  rintro e y ⟨v, vL', vT', rfl, hv, hU, hk, hfL, hfT⟩
  have hs := h.bel.size
  have g1 := h3 p (.inl rfl)
  have g2 := h3 a (.inr (.inl rfl))
  have g3 := h3 b (.inr (.inr rfl))
  have hX : ∀ k, k ≠ q → vT.ownBlock ≠ some k → k ∉ q :: vT.ownBlock.toList := fun k e1 e2 hm => by
    rcases List.mem_cons.1 hm with e | e
    · exact e1 e
    · exact e2 (by simpa using e)
  have hlen := gone_length M zs
  refine ⟨v, rfl, hv, ⟨⟨a, b, vL', vT', h1.kept hk (hX p g1.2.1 g1.2.2.2) (hX a g2.2.1 g2.2.2.2) (hX b g3.2.1 g3.2.2.2), hU, fun k hk' => ?_, h4, fun k hk' => ?_, fun k hk' => ?_⟩, h.bel.trans (hk.below hs (fun k hm => by
    rcases List.mem_cons.1 hm with rfl | hm
    · exact h4
    · exact h5 k (.inr (by simpa using hm)))), h.nl, h.nt, Nat.le_trans (setOf_length zs) (by rw [hr.len]; exact hn), by rw [List.length_append]; omega⟩, fun k hk' => ?_⟩
  · have g := h3 k hk'
    have hkx : k < x.heap.size := by rcases hk' with rfl | rfl | rfl <;> omega
    refine ⟨g.1, g.2.1, fun e => by have := hfL k e; omega, fun e => ?_⟩
    rcases hfT k e with e | e
    · exact g.2.2.2 e
    · omega
  · rcases hk' with e | e
    · have := hfL k e
      omega
    · rcases hfT k e with e | e
      · exact h5 k (.inr e)
      · omega
  · have g := h6 k hk'
    have := hk.size
    refine ⟨by omega, g.2.1, g.2.2.1, g.2.2.2.1, g.2.2.2.2.1, fun e => by have := hfL k e; omega, fun e => ?_⟩
    rcases hfT k e with e | e
    · exact g.2.2.2.2.2.2 e
    · omega
  · have g := h6 k hk'
    exact hk.block k g.1 (hX k g.2.2.2.2.1 g.2.2.2.2.2.2)

theorem Ub.held (h : Ub w x p q L told M said K) :
    Calls Try.prog 12 #[.pointer (some ⟨p, 0, none⟩)] x fun e y => ∃ v, e = .returned v ∧ y.ownsRow x.heap.size 3 1 v L.length (L.map encZ) ∧ Ub w y p q L told M said K ∧ Below x.heap.size x y := by
  obtain ⟨a, b, vL, vT, h1, _⟩ := h.ex
  refine (uheld_any h1 h.nl).mono ?_
  rintro e y ⟨v, rfl, hv, hb⟩
  exact ⟨v, rfl, hv, h.on hb, hb⟩
theorem Ub.times (h : Ub w x p q L told M said K) (id : Int) (hi : I64 id) :
    Calls Try.prog 13 #[.pointer (some ⟨p, 0, none⟩), .int .i64 id] x fun e y => e = .returned (.int .i64 (told.count id : Nat)) ∧ y = x := by
  obtain ⟨a, b, vL, vT, h1, _⟩ := h.ex
  exact utimes_any h1 id hi
theorem Ub.rtimes (h : Ub w x p q L told M said K) (id : Int) :
    Calls Try.prog 14 #[.pointer (some ⟨q, 0, none⟩), .int .i64 id] x fun e y => e = .returned (.int .i64 (said.count id : Nat)) ∧ y = x := by
  obtain ⟨a, b, vL, vT, h1, h2, _⟩ := h.ex
  have := h.ns
  exact rtimes_any h2 (by omega) id
/-- The document's row of those that are held. -/
theorem Ub.row (h : Ub w x p q L told M said K) : ∃ a c, x.cell? ⟨q, 0, none⟩ = some (.slice a M.length c) ∧ RdZ x a M.length M := by
  obtain ⟨a, b, vL, vT, h1, h2, _⟩ := h.ex
  obtain ⟨a', c', e, hr⟩ := rdz_of h2.rl
  exact ⟨a', c', by rw [h2.c0, e], hr⟩
theorem Ub.new (w1 w2 : World) (hU : Us w1 w2 p [] [] []) : Ub w1 (w2.alloc (.cells #[.slice none 0 0, .slice none 0 0] 28)) p w2.heap.size [] [] [] [] [] := by
  obtain ⟨a, b, h1, h2, h3, h4, _⟩ := hU.ex
  have hb : Below w2.heap.size w2 (w2.alloc (.cells #[.slice none 0 0, .slice none 0 0] 28)) := (Below.refl _ _).alloc (Nat.le_refl _) _
  have hl := h1.lt
  have hs := hU.bel.size
  refine ⟨⟨a, b, .slice none 0 0, .slice none 0 0, h1.on hb, ⟨heap_alloc_new w2 _, World.ownsRow_nil _ _ _ _, World.ownsRow_nil _ _ _ _, by simp [Value.ownBlock], by simp [Value.ownBlock], by simp [Value.ownBlock], by simp⟩, fun k hk => ?_, by omega, fun k hk => ?_, by simp⟩, Below.on hU.bel hb, by decide, by decide, by decide, by decide⟩
  · have : w1.heap.size ≤ k ∧ k < w2.heap.size := by rcases hk with rfl | rfl | rfl <;> omega
    exact ⟨this.1, by omega, by simp [Value.ownBlock], by simp [Value.ownBlock]⟩
  · simp [Value.ownBlock] at hk
end Go.Proofs.Ytmihmajhfoghpaa
