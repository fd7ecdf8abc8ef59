/- Append onto a slice without room, which is nobody's own (structs of m numbers): over any program. -/
import Derived.Test.YtlkodgmnhphfcaaStaA
namespace Go.Proofs.Ytlkodgmnhphfcaa
open Go Go.RowKit

section
variable {P : Program} (w : World)
theorem run_append_full (m t tx ty e e' : TypeId) (i : TypeInfo) (z : Value) (bytes : Nat) (ht : P.underlying t = some (.slice e)) (htx : P.underlying tx = some (.slice e')) (hi : P.info? e = some i) (hz : i.zero = some z)
    (hsize : i.size = m) (hby : i.bytes = bytes) (hzs : z.cells.size = m)
    (va : Option Addr) (n : Nat) (l : List (List Int)) (hr : RdM m w va n n l) (vx : Option Addr) (n' c' : Nat) (l' : List (List Int)) (hr' : RdM m w vx n' c' l') (hpos : 0 < n + n')
    (h63 : n + n' ≤ maxLen) (hbytes : ∀ old, old < n + n' → Builtin.nextslicecap (n + n') old * bytes ≤ 281474976710656) :
    ∃ a'' c'' w', (Builtin.append_ #[t, tx] ty #[.slice va n n, .slice vx n' c']).run P w = .ok (.slice a'' (n + n') c'') w' ∧ RdM m w' a'' (n + n') c'' (l ++ l') ∧ Below w.heap.size w w' := by
  subst hsize
  subst hby
  have hs := hr'.src (P := P) htx
  have ho := hr.src (P := P) ht
  have hl := hr.len
  have hl' := hr'.len
  have hsmall : n + n' ≤ 9223372036854775807 := by simp only [maxLen] at h63; omega
  by_cases hn : n' = 0
  · subst hn
    obtain rfl : l' = [] := List.eq_nil_of_length_eq_zero hl'
    obtain ⟨b, off, rfl, _, _⟩ := hr.pl (by omega)
    have hrun := run_append_room_src (P := P) w t tx ty e i ht hi b off n n (.slice vx 0 c') 0 [] (by simpa [mcs] using hs) (by omega) (fun j hj => absurd hj (by simp)) (fun j hj => absurd hj (by simp))
    refine ⟨_, _, _, hrun, ?_, ?_⟩
    · rw [List.append_nil]
      exact hr
    · exact Below.refl _ _
  · have hrun := run_append_grow_src (P := P) w t tx ty e i z ht hi hz va n n (mcs l) ho.cellsD (.slice vx n' c') n' (mcs l') hs (by omega) (by omega) (hbytes _ (by omega))
    have hge := grownCap_ge w (n + n') n e
    have hcm : grownCap w (n + n') n e ≤ maxLen := grownCap_le_maxLen w (n + n') n e h63
    have hlen : (mcs l ++ mcs l').length = (n + n') * i.size := by rw [List.length_append, ho.newsLen, hs.newsLen, Nat.add_mul]
    have hO : OwM i.size e w (w.drew.alloc (.cells ((mcs l ++ mcs l').toArray ++ Builtin.zeroCells z.cells (grownCap w (n + n') n e - (n + n'))) e)) (.slice (some ⟨w.heap.size, 0, none⟩) (n + n') (grownCap w (n + n') n e)) (l ++ l') := by
      refine ⟨⟨?_, .inr ⟨w.heap.size, _, _, ?_, Nat.le_refl _, _root_.Go.heap_alloc_new w.drew _, ?_, hcm, ?_, ?_⟩⟩, (Below.refl _ _).drew.alloc (Nat.le_refl _) _, fun y hy => ?_⟩
      · rw [mcs_append, hlen, List.length_append, hl, hl']
      · rw [List.length_append, hl, hl']
      · rw [List.length_append, hl, hl']
        exact hge
      · simp only [Array.size_append, List.size_toArray, size_zeroCells, hzs, hlen, ← Nat.add_mul]
        congr 1
        omega
      · simp only [Array.toList_append]
        rw [List.length_append, hl, hl', ← hlen, mcs_append]
        exact List.take_left
      · rcases List.mem_append.1 hy with hy | hy
        · exact hr.size y hy
        · exact hr'.size y hy
    obtain ⟨a, c, e1, hR, _⟩ := hO.rd
    rw [List.length_append, hl, hl'] at e1 hR
    cases e1
    exact ⟨_, _, _, hrun, hR, hO.bel⟩

theorem wpList_append_full {ops : Array Oper} {rest : List Oper} {o : Oper} {a : Act} {Q : Exit → Act → World → Prop} (hgd : o.guard = none) (s x : Operand) (t tx : TypeId)
    (ho : o.op = .call { callee := .builtin .append, args := #[s, x], argTypes := #[t, tx] })
    (e e' : TypeId) (i : TypeInfo) (z : Value) (m bytes : Nat) (ht : P.underlying t = some (.slice e)) (htx : P.underlying tx = some (.slice e')) (hi : P.info? e = some i) (hz : i.zero = some z)
    (hsize : i.size = m) (hby : i.bytes = bytes) (hzs : z.cells.size = m)
    (va : Option Addr) (n : Nat) (l : List (List Int)) (hs : a.eval s = .slice va n n) (hr : RdM m w va n n l) (vx : Option Addr) (n' c' : Nat) (l' : List (List Int)) (hx : a.eval x = .slice vx n' c') (hr' : RdM m w vx n' c' l') (hpos : 0 < n + n')
    (h63 : n + n' ≤ maxLen) (hbytes : ∀ old, old < n + n' → Builtin.nextslicecap (n + n') old * bytes ≤ 281474976710656)
    (h : ∀ a'' c'' w', RdM m w' a'' (n + n') c'' (l ++ l') → Below w.heap.size w w' → wpList P ops Q rest (a.put o.dst (.slice a'' (n + n') c'')) w') : wpList P ops Q (o :: rest) a w :=
  wpList_plain hgd fun K hK => by
    obtain ⟨a'', c'', w', hrun, h2, h3⟩ := run_append_full (P := P) w m t tx o.type e e' i z bytes ht htx hi hz hsize hby hzs va n l hr vx n' c' l' hr' hpos h63 hbytes
    unfold Oper.wp execOp
    simp only [ho, resolve, invoke, builtin, Sem.run_bind, Sem.run_pure, Result.andThen_ok, List.map_toArray, List.map_cons, List.map_nil, hs, hx, hrun]
    exact hK _ _ (h a'' c'' w' h2 h3)
end
end Go.Proofs.Ytlkodgmnhphfcaa
