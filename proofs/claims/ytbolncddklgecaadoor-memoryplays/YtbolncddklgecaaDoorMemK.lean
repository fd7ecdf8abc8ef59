/- The document's memories: Set, Write. -/
import Derived.Test.YtbolncddklgecaaDoorMemJ
namespace Go.Proofs.YtbolncddklgecaaDoor
open Go Go.RowKit

theorem bc_take (l : List UInt8) (k : Nat) : (bc l).take k = bc (l.take k) := by rw [bc, bc, List.map_take]
theorem bc_drop (l : List UInt8) (k : Nat) : (bc l).drop k = bc (l.drop k) := by rw [bc, bc, List.map_drop]

/-- 'copy' into a row of the call's own. -/
theorem copy_own (u : World) (base g n c : Nat) (l : List UInt8) (hO : u.ownsRow base 5 1 (.slice (some ⟨g, 0, none⟩) n c) n (bc l)) (o dl dc : Nat) (hl : o + dl ≤ n) (a : Option Addr) (m c' : Nat) (b : List UInt8) (hr : Rd u a m c' b) :
    ∃ U k, (∀ ty : TypeId, (Builtin.copy_ #[26, 26] ty #[.slice (some ⟨g, o, none⟩) dl dc, .slice a m c']).run Tryd.prog u = .ok (goInt k) U) ∧ U.ownsRow base 5 1 (.slice (some ⟨g, 0, none⟩) n c) n (bc (wro l o (b.take dl))) ∧ Kp [g] u U := by
  have hlen := hr.len
  have hll : l.length = n := by have := hO.1; rw [bc_length] at this; omega
  cases a with
  | none =>
    have h0 := hr.hnil rfl
    have h1 := hr.le
    obtain rfl : m = 0 := by omega
    subst h0
    obtain rfl : b = [] := List.eq_nil_of_length_eq_zero hlen
    refine ⟨u, 0, fun ty => run_copy_nil (P := Tryd.prog) u _ _ _ 5 _ _ _ Tryd.underlying26 (by rw [sizeU8]; rfl), ?_, Kp.refl _ _⟩
    rw [List.take_nil, wro_nil]
    exact hO
  | some x =>
    rcases hO.2 with ⟨hv, _⟩ | ⟨g', cap, cur, hv, hb, hg, hnc, hcm, hs, ht⟩
    · cases hv
    cases hv
    have hcs : (bc (b.take dl)).length = Nat.min m dl := by rw [bc_length, List.length_take, hlen]; exact Nat.min_comm _ _
    have hmd : Nat.min m dl ≤ dl := Nat.min_le_right m dl
    have hrun : ∀ ty, (Builtin.copy_ #[26, 26] ty #[.slice (some ⟨g, o, none⟩) dl dc, .slice (some x) m c']).run Tryd.prog u = _ := fun ty => run_copy_row (P := Tryd.prog) u 26 26 ty 5 g o dl dc x m c' cur 5 (bc (b.take dl)) Tryd.underlying26 sizeU8 hg hcs (fun j v hj => hr.cells x rfl j v (by
      have hj' : j < (bc (b.take dl)).length := by
        rcases Nat.lt_or_ge j (bc (b.take dl)).length with h' | h'
        · exact h'
        · rw [List.getElem?_eq_none h'] at hj; cases hj
      rw [bc_length, List.length_take] at hj'
      rw [bc, List.getElem?_map, List.getElem?_take_of_lt (by omega)] at hj
      rw [bc, List.getElem?_map]
      exact hj)) (by rw [hs, hcs, Nat.mul_one]; exact Nat.le_trans (Nat.add_le_add_left hmd o) (by omega)) (bc_one _)
    refine ⟨_, _, hrun, ?_, kp_setRow _ _ _⟩
    have hcl : cur.toList.length = c := by rw [Array.length_toList, hs, Nat.mul_one]
    refine ⟨?_, .inr ⟨g, c, _, rfl, hb, setRow_heap u g cur _ 5 _ hg, hnc, hcm, ?_, ?_⟩⟩
    · rw [bc_length, wro_length (by rw [List.length_take]; omega), hll, Nat.mul_one]
    · simp only [List.size_toArray, List.length_append, List.length_take, List.length_drop, hcl]
      rw [hcs]
      have : o + Nat.min m dl ≤ c := by omega
      omega
    · have ht' : cur.toList.take n = bc l := by rw [← ht, Nat.mul_one]
      have e1 : cur.toList.take o = (bc l).take o := by rw [← ht', List.take_take, Nat.min_eq_left (by omega)]
      have e2 : (cur.toList.drop (o + (bc (b.take dl)).length)).take (n - (o + (bc (b.take dl)).length)) = (bc l).drop (o + (bc (b.take dl)).length) := by
        rw [← ht', List.drop_take]
      have hcs' : (bc (b.take dl)).length ≤ dl := by rw [hcs]; exact hmd
      have e3 : ((cur.toList.take o ++ bc (b.take dl) ++ cur.toList.drop (o + (bc (b.take dl)).length)).toArray).toList.take (n * 1) = (cur.toList.take o ++ bc (b.take dl)) ++ (cur.toList.drop (o + (bc (b.take dl)).length)).take (n - (o + (bc (b.take dl)).length)) := by
        show (cur.toList.take o ++ bc (b.take dl) ++ cur.toList.drop (o + (bc (b.take dl)).length)).take (n * 1) = _
        rw [Nat.mul_one, List.take_append, List.take_of_length_le (by rw [List.length_append, List.length_take]; omega), List.length_append, List.length_take, hcl, Nat.min_eq_left (by omega)]
      rw [e3, e2, e1, wro, bc_append, bc_append, bc_length, bc_take, bc_drop]

variable {base : Nat} {w : World} {q : Nat} {s : Int → Mo} {d : Int → Do}

/-- What the document's Set and Write answer: numbers, and new memories. -/
def Dnew (base : Nat) (w : World) (q : Nat) (d : Int → Do) (w' : World) (d' : Int → Do) : Prop := Dm base w' q d' ∧ Kp [q] w w' ∧ Fr w d d'

theorem dnew_same {w' : World} (hD : Dm base w q d) (hb : Below w.heap.size w w') : Dnew base w q d w' d := ⟨hD.on hb, kp_of_below hb _, fun _ _ _ h _ => .inl h⟩

theorem Dm.put {U : World} (hD : Dm base w q d) (i : Nat) (hi : 1 ≤ i ∧ i ≤ 255) (v : Value) (L : List UInt8) (hL : L.length ≤ 65536) (hO : U.ownsRow base 5 1 v L.length (bc L)) (hU : Below w.heap.size w U) (hv : ∀ j, v.ownBlock = some j → w.heap.size ≤ j) (U' : World) (hk : Kp [q] U U') (hvar : U'.heap[q]? = some (.cells (dmc (dupd d i (some (v, L)))) 30 (0, 0))) : Dnew base w q d U' (dupd d i (some (v, L))) := by
  have hq := hD.lt
  refine ⟨⟨hD.lo, hvar, fun k e => ?_, fun k x e => ?_⟩, (kp_of_below hU [q]).trans hk (fun _ h _ => h), fun k x j e hj => ?_⟩
  · by_cases hk : k = i
    · omega
    · rw [dupd_other d hk] at e; exact hD.dom k e
  · by_cases hki : k = i
    · rw [hki, dupd_same] at e
      cases e
      exact ⟨hk.row hO (fun j hj hm => by have := hv j hj; simp only [List.mem_cons, List.not_mem_nil, or_false] at hm; omega), fun j hj => by have := hv j hj; omega, hL⟩
    · rw [dupd_other d hki] at e
      obtain ⟨r1, r2, r3⟩ := hD.row k x e
      exact ⟨hk.row (ownsRow_below r1 hU) (fun j hj => by simpa using r2 j hj), r2, r3⟩
  · by_cases hki : k = i
    · rw [hki, dupd_same] at e
      cases e
      exact .inr (hv j hj)
    · rw [dupd_other d hki] at e
      exact .inl e

set_option maxRecDepth 100000 in
theorem rset_arg (hD : Dm base w q d) (k n : Int) (hk : k < 1 ∨ 255 < k ∨ n < 0 ∨ 65536 < n) :
    Calls Tryd.prog 12 #[.pointer (some ⟨q, 0, none⟩), .int .i64 k, .int .i64 n] w fun e w' => e = .returned (.int .i64 1) ∧ Dnew base w q d w' d := by
  have HT := hid (dnew_same hD (Below.refl _ _))
  clear hD
  by_cases h1 : k < 1
  · have e1 : decide (k < 1) = true := decide_eq_true h1
    go_enter Tryd.func12, Tryd.ntmps12
    go_wp2
    go_ret
    exact ⟨rfl, HT.out⟩
  · have e1 : decide (k < 1) = false := decide_eq_false h1
    by_cases h2 : 255 < k
    · have e2 : decide (255 < k) = true := decide_eq_true h2
      go_enter Tryd.func12, Tryd.ntmps12
      go_wp2
      go_ret
      exact ⟨rfl, HT.out⟩
    · have e2 : decide (255 < k) = false := decide_eq_false h2
      by_cases h3 : n < 0
      · have e3 : decide (n < 0) = true := decide_eq_true h3
        go_enter Tryd.func12, Tryd.ntmps12
        go_wp2
        go_ret
        exact ⟨rfl, HT.out⟩
      · have e3 : decide (n < 0) = false := decide_eq_false h3
        have e4 : decide (65536 < n) = true := decide_eq_true (by omega)
        go_enter Tryd.func12, Tryd.ntmps12
        go_wp2
        go_ret
        exact ⟨rfl, HT.out⟩

theorem owns_block {u : World} {g : Nat} {l : List UInt8} (h : u.heap[g]? = some (.cells (bc l).toArray 5 (0, 0))) (hb : base ≤ g) (hl : l.length ≤ 65536) : u.ownsRow base 5 1 (.slice (some ⟨g, 0, none⟩) l.length l.length) l.length (bc l) :=
  ⟨by rw [bc_length, Nat.mul_one], .inr ⟨g, l.length, _, rfl, hb, h, Nat.le_refl _, by simp only [maxLen]; omega, by rw [List.size_toArray, bc_length, Nat.mul_one], by show (bc l).take (l.length * 1) = _; rw [Nat.mul_one, ← bc_length]; exact List.take_length⟩⟩

set_option maxRecDepth 100000 in
set_option maxHeartbeats 1000000 in
theorem rset_ok (hD : Dm base w q d) (hag : Ag s d) (hbase : base ≤ w.heap.size) (i n : Nat) (hk : 1 ≤ i ∧ i ≤ 255) (hn : n ≤ 65536) :
    Calls Tryd.prog 12 #[.pointer (some ⟨q, 0, none⟩), .int .i64 i, .int .i64 n] w fun e w' => e = .returned (.int .i64 0) ∧ ∃ v, Dnew base w q d w' (dupd d i (some (v, rsz (by_ (s i)) n))) := by
  obtain ⟨w1, hmk, hb1, hg1⟩ := make_any w n (by omega)
  have hD1 := hD.on hb1
  obtain ⟨ao, m, c, hv, hrd, hm⟩ := hag.rd hD1 i
  obtain ⟨U, mm, hcp, hU, hkU, _⟩ := copy_row w1 w.heap.size 0 n n (List.replicate n 0) hg1 ao m c _ hrd (by simp)
  have hbU : Below w.heap.size w U := hb1.trans (hkU.below hb1.size (fun k hk => by simp only [List.mem_cons, List.not_mem_nil, or_false] at hk; omega))
  have eU : wro (List.replicate n 0) 0 ((by_ (s i)).take n) = rsz (by_ (s i)) n := by
    rw [wro, rsz, List.take_zero, List.nil_append, Nat.zero_add, List.length_take, List.drop_replicate]
    congr 2
    omega
  rw [eU] at hU
  have hlt := hD.lt
  have hDU := hD.on hbU
  have c0 := hD1.cl i (by omega)
  rw [hv] at c0
  have cU := hDU.cl i (by omega)
  rw [hv] at cU
  have cH := hDU.ch i (by omega)
  have fU : ∀ j, U.frozen? ⟨q, j, none⟩ = false := Lib.frozen_of_heap hDU.var
  have hUl : q < U.heap.size := hDU.lt
  have HF : Hid (∃ v, Dnew base w q d ((U.setCell ⟨q, i, none⟩ (.slice (some ⟨w.heap.size, 0, none⟩) n n)).setCell ⟨q, 256 + i, none⟩ (.bool true)) (dupd d i (some (v, rsz (by_ (s i)) n)))) := by
    have hO := owns_block hU hbase (by rw [rsz_length]; omega)
    refine ⟨.slice (some ⟨w.heap.size, 0, none⟩) n n, hD.put i hk _ _ (by rw [rsz_length]; omega) (by rw [rsz_length] at hO ⊢; exact hO) hbU (fun j hj => by simp only [Value.ownBlock, Option.some.injEq] at hj; omega) _ (((Kp.refl [q] U).set ⟨q, i, none⟩ (by simp) _).set ⟨q, 256 + i, none⟩ (by simp) _) ?_⟩
    rw [heap_setCell_same _ _ _ _ _ _ (heap_setCell_same _ _ _ _ _ _ hDU.var), ← dmc_set d i (by omega) (_, _)]
  have e1 : decide ((i : Int) < 1) = false := decide_eq_false (by omega)
  have e2 : decide (255 < (i : Int)) = false := decide_eq_false (by omega)
  have e3 : decide ((n : Int) < 0) = false := decide_eq_false (by omega)
  have e4 : decide (65536 < (n : Int)) = false := decide_eq_false (by omega)
  clear hD hD1 hDU hv hrd hU hkU hbU hg1 hb1 eU hm hag
  go_enter Tryd.func12, Tryd.ntmps12
  go_wp2
  go_ret
  exact ⟨rfl, HF.out⟩
end Go.Proofs.YtbolncddklgecaaDoor
