/- The contracts of the program's queue: cut, Take; and awake of law 25. -/
import Derived.Test.YtmcbbpcbebbjdaaDoorQuB
import Derived.Test.YtmcbbpcbebbjdaaDoorKindA
import Derived.Laws.OwnMore
import Derived.Laws.CopyRow
namespace Go.Proofs.YtmcbbpcbebbjdaaDoor
open Go Go.RowKit

/-- How many bytes are taken. -/
def qtk (l : List UInt8) (n : Int) : Nat := (max 0 (min n (l.length : Nat))).toNat
theorem qtk_le (l : List UInt8) (n : Int) : qtk l n ≤ l.length := by unfold qtk; omega
theorem qtk_eq (l : List UInt8) (n : Int) : max 0 (min n ((l.length : Nat) : Int)) = ((qtk l n : Nat) : Int) := by unfold qtk; omega

/-- What is left is turned. -/
theorem Qu.left {base p r : Nat} {w : World} {v v' : Value} {l l' : List UInt8} {c : Bool} (h : Qu base w p v r l c) (ho : Ow w base 5 v' l') (hne : v'.ownBlock ≠ some p) (hl : l'.length ≤ r) : Qu base (w.setCell ⟨p, 1, none⟩ v') p v' r l' c ∧ Kp [p] w (w.setCell ⟨p, 1, none⟩ v') :=
  ⟨⟨h.lo, (heap_setCell_same _ _ _ _ _ _ h.var).trans rfl, ho.set _ hne _, hne, hl, h.top⟩, (Kp.refl [p] w).set ⟨p, 1, none⟩ (by simp) _⟩

/-- Nothing is left, whatever was written ahead of it. -/
theorem Qu.left2 {base p r : Nat} {w : World} {v : Value} {l : List UInt8} {c : Bool} (h : Qu base w p v r l c) (x : Value) : Qu base ((w.setCell ⟨p, 1, none⟩ x).setCell ⟨p, 1, none⟩ (.slice none 0 0)) p (.slice none 0 0) r [] c ∧ Kp [p] w ((w.setCell ⟨p, 1, none⟩ x).setCell ⟨p, 1, none⟩ (.slice none 0 0)) :=
  ⟨⟨h.lo, (heap_setCell_same _ _ _ _ _ _ ((heap_setCell_same _ _ _ _ _ _ h.var).trans rfl)).trans rfl, Ow.nil _ _ _, by simp [Value.ownBlock], Nat.zero_le _, h.top⟩, ((Kp.refl [p] w).set ⟨p, 1, none⟩ (by simp) _).set ⟨p, 1, none⟩ (by simp) _⟩

theorem Rd.first {w : World} {a : Option Addr} {n c : Nat} {l : List UInt8} (h : Rd w a n c l) {k : Nat} (hk : k ≤ n) : Rd w a k k (l.take k) :=
  ⟨by rw [List.length_take, h.len]; omega, Nat.le_refl _, by have := h.le; have := h.max; omega, fun e => by have := h.hnil e; have := h.le; omega, fun x hx j u hu => h.cells x hx j u (by
    rcases Nat.lt_or_ge j k with h' | h'
    · rw [bc, List.map_take, List.getElem?_take_of_lt h'] at hu
      exact hu
    · rw [bc, List.map_take, List.getElem?_take_eq_none h'] at hu
      cases hu)⟩

set_option maxRecDepth 100000 in
theorem qcut_none {base p r : Nat} {w : World} {c : Bool} (h : Qu base w p (.slice none 0 0) r [] c) :
    Calls Tryd.prog 19 #[.pointer (some ⟨p, 0, none⟩), .int .i64 0] w fun e w' => e = .returned (.slice none 0 0) ∧ Qu base w' p (.slice none 0 0) r [] c ∧ Kp [p] w w' := by
  have c1 := h.cell1
  have hfr : ∀ j, w.frozen? ⟨p, j, none⟩ = false := Lib.frozen_of_heap h.var
  have hlt := h.lt
  have HF := hid (h.left2 (.slice none 0 0))
  clear h
  go_enter Tryd.func19, Tryd.ntmps19
  go_wp2
  go_ret
  exact ⟨rfl, HF.out⟩

set_option maxRecDepth 100000 in
theorem qcut_some {base p r g off m cap : Nat} {w : World} {l : List UInt8} {c : Bool} (h : Qu base w p (.slice (some ⟨g, off, none⟩) m cap) r l c) (n : Nat) (hn : n < l.length) :
    Calls Tryd.prog 19 #[.pointer (some ⟨p, 0, none⟩), .int .i64 n] w fun e w' => e = .returned (.slice (some ⟨g, off, none⟩) n n) ∧ Qu base w' p (.slice (some ⟨g, off + n, none⟩) (m - n) (cap - n)) r (l.drop n) c ∧ Kp [p] w w' := by
  have c1 := h.cell1
  have hfr : ∀ j, w.frozen? ⟨p, j, none⟩ = false := Lib.frozen_of_heap h.var
  have hlt := h.lt
  obtain ⟨rfl, hc, hmax, hcut⟩ := h.row.cut n (by omega)
  have hlen := h.len
  have HF := hid (h.left hcut h.ne (by rw [List.length_drop]; omega))
  have e1 : (((l.length - n : Nat) : Int) == 0) = false := by rw [beq_eq_false_iff_ne]; omega
  clear h hcut
  go_enter Tryd.func19, Tryd.ntmps19
  go_wp2
  go_ret
  exact ⟨rfl, HF.out⟩

set_option maxRecDepth 100000 in
theorem qcut_all {base p r g off m cap : Nat} {w : World} {l : List UInt8} {c : Bool} (h : Qu base w p (.slice (some ⟨g, off, none⟩) m cap) r l c) :
    Calls Tryd.prog 19 #[.pointer (some ⟨p, 0, none⟩), .int .i64 (l.length : Nat)] w fun e w' => e = .returned (.slice (some ⟨g, off, none⟩) l.length l.length) ∧ Qu base w' p (.slice none 0 0) r [] c ∧ Kp [p] w w' := by
  have c1 := h.cell1
  have hfr : ∀ j, w.frozen? ⟨p, j, none⟩ = false := Lib.frozen_of_heap h.var
  have hlt := h.lt
  obtain ⟨rfl, hc, hmax, hcut⟩ := h.row.cut l.length (Nat.le_refl _)
  have HF := hid (fun x => h.left2 x)
  have e0 : l.length - l.length = 0 := Nat.sub_self _
  clear h hcut
  go_enter Tryd.func19, Tryd.ntmps19
  go_wp2
  all_goals
    go_ret
    exact ⟨rfl, HF.out _⟩

/-- cut. -/
theorem qcut_any {base p r : Nat} {w : World} {v : Value} {l : List UInt8} {c : Bool} (h : Qu base w p v r l c) (n : Nat) (hn : n ≤ l.length) :
    Calls Tryd.prog 19 #[.pointer (some ⟨p, 0, none⟩), .int .i64 n] w fun e w' => ∃ a, e = .returned (.slice a n n) ∧ Rd w' a n n (l.take n) ∧ ∃ v', Qu base w' p v' r (l.drop n) c ∧ Kp [p] w w' ∧ ∀ k, v'.ownBlock = some k → v.ownBlock = some k := by
  have keep : ∀ {g off m cap : Nat} {w' : World}, v = .slice (some ⟨g, off, none⟩) m cap → Kp [p] w w' → Rd w' (some ⟨g, off, none⟩) n n (l.take n) := fun e hk => by
    subst e
    obtain ⟨a, c, hv, hr, _⟩ := (h.row.kp hk (fun k hk hm => by
      simp only [List.mem_cons, List.not_mem_nil, or_false] at hm
      exact h.ne (by rw [hk, hm]))).rd
    cases hv
    exact hr.first hn
  rcases h.row with ⟨rfl, rfl⟩ | ⟨g, off, cap, cur, rfl, _⟩
  · obtain rfl : n = 0 := Nat.le_zero.1 hn
    refine (qcut_none h).mono ?_
    rintro e w' ⟨rfl, h1, h2⟩
    exact ⟨none, rfl, Rd.nil _, _, h1, h2, fun k hk => hk⟩
  · rcases Nat.lt_or_ge n l.length with h' | h'
    · refine (qcut_some h n h').mono ?_
      rintro e w' ⟨rfl, h1, h2⟩
      exact ⟨_, rfl, keep rfl h2, _, h1, h2, fun k hk => hk⟩
    · obtain rfl : n = l.length := by omega
      refine (qcut_all h).mono ?_
      rintro e w' ⟨rfl, h1, h2⟩
      refine ⟨_, rfl, keep rfl h2, .slice none 0 0, ?_, h2, fun k hk => by cases hk⟩
      rw [List.drop_length]
      exact h1

/-- 'make([]byte, n)': n bytes 0, in a block of its own. -/
theorem qmake (w : World) (n : Nat) (hn : n ≤ 65537) : ∃ w1, (Instr.makeSlice 27 (.int .i64 (n : Int)) (.int .i64 (n : Int))).run Tryd.prog w = .ok (.slice (some ⟨w.heap.size, 0, none⟩) n n) w1 ∧ Below w.heap.size w w1 ∧ w1.heap[w.heap.size]? = some (.cells (bc (List.replicate n 0)).toArray 5 (0, 0)) := by
  obtain ⟨i0, hi, hz0, hz1, hz2⟩ := qinfo_parts qinfoU8
  obtain ⟨w1, hmk, ho1, hg1⟩ := run_make_full (P := Tryd.prog) w w.heap.size 27 5 i0 (.int .u8 0) 1 Tryd.underlying27 hi hz0 hz1 .i64 .i64 n (by rw [hz2]; omega) (by simp only [maxLen]; omega) (Nat.le_refl _)
  refine ⟨w1, hmk, (Below.refl _ _).grown hg1 (Nat.le_refl _) (fun k hk => by cases hk), ?_⟩
  rcases ho1.2 with ⟨h, _⟩ | ⟨g', cap', cur, hv, _, hg, _, _, hs, ht⟩
  · cases h
  · cases hv
    rw [hg]
    have e : cur.toList = (madeCells (Value.int .u8 0).cells (n * 1)).toList := by
      rw [← ht, List.take_of_length_le]
      rw [Array.length_toList, hs]
      exact Nat.le_refl _
    have e2 : cur = (bc (List.replicate n 0)).toArray := by
      apply Array.ext'
      rw [e]
      simp only [madeCells, bc, Value.cells]
      apply List.ext_getElem
      · simp
      · intro j h1 h2
        simp [Nat.mod_one]
    rw [e2]

theorem qsizeU8 : (Tryd.prog.info? 5).map (·.size) = some 1 := by
  obtain ⟨i, hi, _, h1, _⟩ := qinfo_parts qinfoU8
  rw [hi]
  exact congrArg some h1

/-- 'copy' of n bytes into a row of n. -/
theorem qcopy (u : World) (g n : Nat) (hg : u.heap[g]? = some (.cells (bc (List.replicate n 0)).toArray 5 (0, 0))) (a : Option Addr) (c : Nat) (b : List UInt8) (hr : Rd u a n c b) :
    ∃ U, (∀ ty : TypeId, (Builtin.copy_ #[27, 27] ty #[.slice (some ⟨g, 0, none⟩) n n, .slice a n c]).run Tryd.prog u = .ok (goInt n) U) ∧ U.heap[g]? = some (.cells (bc b).toArray 5 (0, 0)) ∧ Kp [g] u U := by
  have hlen := hr.len
  cases a with
  | none =>
    have h0 := hr.hnil rfl
    have h1 := hr.le
    obtain rfl : n = 0 := by omega
    subst h0
    obtain rfl : b = [] := List.eq_nil_of_length_eq_zero hlen
    exact ⟨u, fun ty => run_copy_nil (P := Tryd.prog) u _ _ _ 5 _ _ _ Tryd.underlying27 (by rw [qsizeU8]; rfl), hg, Kp.refl _ _⟩
  | some x =>
    have hcs : (bc b).length = Nat.min n n := by rw [bc_length, hlen]; exact (Nat.min_self n).symm
    have hrun : ∀ ty, (Builtin.copy_ #[27, 27] ty #[.slice (some ⟨g, 0, none⟩) n n, .slice (some x) n c]).run Tryd.prog u = _ := fun ty => run_copy_row (P := Tryd.prog) u 27 27 ty 5 g 0 n n x n c (bc (List.replicate n 0)).toArray 5 (bc b) Tryd.underlying27 qsizeU8 hg hcs (fun j v hj => hr.cells x rfl j v hj) (by rw [List.size_toArray, bc_length, bc_length, hlen, List.length_replicate]; omega) (bc_one _)
    rw [bc_length, hlen] at hrun
    refine ⟨_, hrun, ?_, ⟨rfl, rfl, rfl, by simp, fun k _ hn => setRow_other u g k _ (fun e => hn (by simp [e]))⟩⟩
    rw [setRow_heap u g (bc (List.replicate n 0)).toArray _ 5 _ hg]
    have e : (bc (List.replicate n 0)).toArray.toList.take 0 ++ bc b ++ (bc (List.replicate n 0)).toArray.toList.drop (0 + n) = bc b := by
      rw [List.take_zero, List.nil_append, Nat.zero_add, List.drop_of_length_le (by simp [bc]), List.append_nil]
    rw [e]

/-- A row of bytes, whole. -/
theorem rd_row {w : World} {g : Nat} {b : List UInt8} {t : TypeId} (hg : w.heap[g]? = some (.cells (bc b).toArray t (0, 0))) (n : Nat) (hn : b.length = n) (hm : n ≤ maxLen) : Rd w (some ⟨g, 0, none⟩) n n b :=
  ⟨hn, Nat.le_refl _, hm, (fun h => by cases h), fun x hx j u hu => by
    cases hx
    rw [Go.WideShapes.add_plain, Nat.zero_add, Lib.cell_of_heap hg]
    simpa using hu⟩

/-- What Take leaves. -/
def QTake (base : Nat) (w : World) (p : Nat) (v : Value) (r : Nat) (l : List UInt8) (c : Bool) (k : Nat) (w' : World) : Prop :=
  Rd w' (some ⟨w.heap.size, 0, none⟩) k k (l.take k) ∧ ∃ v', Qu base w' p v' r (l.drop k) c ∧ Kp [p] w w' ∧ ∀ k, v'.ownBlock = some k → v.ownBlock = some k

set_option maxRecDepth 100000 in
/-- Take. -/
theorem qtake_any {base p r : Nat} {w : World} {v : Value} {l : List UInt8} {c : Bool} (h : Qu base w p v r l c) (n : Int) :
    Calls Tryd.prog 10 #[.pointer (some ⟨p, 0, none⟩), .int .i64 n] w fun e w' => e = .returned (.slice (some ⟨w.heap.size, 0, none⟩) (qtk l n) (qtk l n)) ∧ QTake base w p v r l c (qtk l n) w' := by
  have h1 := min2_run (P := Tryd.prog) #[3, 3] 3 n (l.length : Nat)
  have h2 := max2_run (P := Tryd.prog) #[3, 3] 3 0 (min n (l.length : Nat))
  rw [qtk_eq] at h2
  have hk := qtk_le l n
  have hlen := h.len
  have htop := h.top
  obtain ⟨k, hk'⟩ : ∃ k, qtk l n = k := ⟨_, rfl⟩
  rw [hk'] at h2 hk ⊢
  obtain ⟨w1, hmk, hb1, hg1⟩ := qmake w k (by omega)
  have c1 := h.cell1
  have hlt := h.lt
  have HC := hid (qcut_any (h.on hb1) k hk)
  have HV : Hid (∀ k, v.ownBlock = some k → k < w.heap.size) := fun k hk => (h.row.lt hk).2
  have HB := hid hb1
  have HG := hid hg1
  obtain ⟨av, cv, rfl, _, _⟩ := h.row.rd
  clear h hk' hb1 hg1
  go_enter Tryd.func10, Tryd.ntmps10
  go_wp2_with fail
  refine HC.out.mono ?_
  rintro e w2 ⟨a, rfl, hr, v', hQ, hk2, hv'⟩
  have hg2 := hk2.var HG.out (by simp only [List.mem_cons, List.not_mem_nil, or_false]; omega)
  obtain ⟨U, hcp, hgU, hkU⟩ := qcopy w2 w.heap.size k hg2 a k _ hr
  have HF : Hid (QTake base w p (.slice av l.length cv) r l c k U) := by
    have hsz := HB.out.size
    refine ⟨rd_row hgU k (by rw [List.length_take]; omega) (by simp only [maxLen]; omega), v', hQ.kp hkU (fun j hj hm => ?_), (((kp_of_below HB.out [p]).trans hk2 (fun _ h _ => h)).trans hkU (fun j hj hlt => ?_)), hv'⟩
    · simp only [List.mem_cons, List.not_mem_nil, or_false] at hm
      subst hm
      rcases qown_mem.1 hj with e | e
      · omega
      · have := HV.out _ (hv' _ e)
        omega
    · simp only [List.mem_cons, List.not_mem_nil, or_false] at hj
      omega
  clear HC HV HB HG hr hQ hk2 hv' hg2 hgU hkU
  go_wp2
  go_ret
  exact ⟨rfl, HF.out⟩
end Go.Proofs.YtmcbbpcbebbjdaaDoor
