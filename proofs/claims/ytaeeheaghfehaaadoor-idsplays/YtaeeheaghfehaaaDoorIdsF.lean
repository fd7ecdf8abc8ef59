/- The document's table: its contracts. -/
import Derived.Test.YtaeeheaghfehaaaDoorIdsE
import Derived.Laws.Rows
namespace Go.Proofs.YtaeeheaghfehaaaDoor
open Go Go.RowKit

/-- The document's cells. -/
def dc (s : Int → Int × Int) : Array Value := Array.ofFn (n := 512) fun j => .int .i64 (if j.val % 2 = 0 then (s (j.val / 2 : Nat)).1 else (s (j.val / 2 : Nat)).2)

theorem dc_size (s : Int → Int × Int) : (dc s).size = 512 := by simp [dc]
theorem dc_even (s : Int → Int × Int) (i : Nat) (h : i < 256) : (dc s)[i * 2]? = some (.int .i64 (s i).1) := by
  rw [dc, Array.getElem?_ofFn, dif_pos (by omega)]
  simp only [Nat.mul_mod_left, if_true, Nat.mul_div_cancel i (show 0 < 2 by omega)]
theorem dc_odd (s : Int → Int × Int) (i : Nat) (h : i < 256) : (dc s)[i * 2 + 1]? = some (.int .i64 (s i).2) := by
  rw [dc, Array.getElem?_ofFn, dif_pos (by omega)]
  simp only [show (i * 2 + 1) % 2 = 1 by omega, show (i * 2 + 1) / 2 = i by omega, if_neg (show ¬ (1 = 0) by omega)]

theorem dc_set (s : Int → Int × Int) (i : Nat) (h : i < 256) (q : Int × Int) : ((dc s).setIfInBounds (i * 2) (.int .i64 q.1)).setIfInBounds (i * 2 + 1) (.int .i64 q.2) = dc (upd s i q) := by
  apply Array.ext_getElem?
  intro j
  rcases Nat.lt_or_ge j 512 with hj | hj
  · rw [Array.getElem?_setIfInBounds, Array.getElem?_setIfInBounds]
    simp only [Array.size_setIfInBounds, dc_size]
    by_cases h1 : i * 2 + 1 = j
    · subst h1
      rw [if_pos rfl, if_pos hj, dc_odd _ i h, upd_same]
    · rw [if_neg h1]
      by_cases h2 : i * 2 = j
      · subst h2
        rw [if_pos rfl, if_pos hj, dc_even _ i h, upd_same]
      · rw [if_neg h2, dc, dc, Array.getElem?_ofFn, Array.getElem?_ofFn, dif_pos hj, dif_pos hj]
        have hne : ((j / 2 : Nat) : Int) ≠ i := by omega
        simp only [upd_other s hne]
  · rw [Array.getElem?_eq_none (by simp [dc_size]; omega), Array.getElem?_eq_none (by rw [dc_size]; omega)]

/-- The document's table at q has just s. -/
structure Dt (base : Nat) (w : World) (q : Nat) (s : Int → Int × Int) : Prop where
  lo : base ≤ q
  var : w.heap[q]? = some (.cells (dc s) 55 (0, 0))
  gd : Gd s

theorem Dt.kept {base : Nat} {w w' : World} {q : Nat} {s : Int → Int × Int} {X : List Nat} (h : Dt base w q s) (hk : Kp X w w') (hq : q ∉ X) : Dt base w' q s := ⟨h.lo, hk.var h.var hq, h.gd⟩
theorem Dt.on {base : Nat} {w w' : World} {q : Nat} {s : Int → Int × Int} (h : Dt base w q s) (hb : Below w.heap.size w w') : Dt base w' q s := h.kept (kp_of_below hb []) (by simp)
theorem Dt.lt {base : Nat} {w : World} {q : Nat} {s : Int → Int × Int} (h : Dt base w q s) : q < w.heap.size := (Array.getElem?_eq_some_iff.1 h.var).1
theorem Dt.even {base : Nat} {w : World} {q : Nat} {s : Int → Int × Int} (h : Dt base w q s) (i : Nat) (hi : i < 256) : w.cell? ⟨q, i * 2, none⟩ = some (.int .i64 (s i).1) := by rw [Lib.cell_of_heap h.var]; exact dc_even s i hi
theorem Dt.odd {base : Nat} {w : World} {q : Nat} {s : Int → Int × Int} (h : Dt base w q s) (i : Nat) (hi : i < 256) : w.cell? ⟨q, i * 2 + 1, none⟩ = some (.int .i64 (s i).2) := by rw [Lib.cell_of_heap h.var]; exact dc_odd s i hi

theorem z55 : Tryd.zeroCells55 = Array.replicate 512 (.int .i64 0) := by kernel_rfl
theorem dc_zero : dc (fun _ => (0, 0)) = Array.replicate 512 (.int .i64 0) := by
  apply Array.ext
  · simp [dc]
  · intro i h1 h2
    simp [dc]

set_option maxRecDepth 100000 in
theorem rnew_any (w : World) : Calls Tryd.prog 7 #[] w fun e w' => e = .returned (.pointer (some ⟨w.heap.size, 0, none⟩)) ∧ Below w.heap.size w w' ∧ ∀ base, base ≤ w.heap.size → Dt base w' w.heap.size s0 := by
  go_enter Tryd.func7, Tryd.ntmps7
  go_wp2
  go_ret
  refine ⟨rfl, (Below.refl _ _).alloc (Nat.le_refl _) _, fun base hb => ⟨hb, ?_, gd0⟩⟩
  have h := dc_set (fun _ => (0, 0)) 1 (by omega) (1, 1)
  rw [dc_zero, ← z55] at h
  rw [show s0 = upd (fun _ => (0, 0)) ((1 : Nat) : Int) (1, 1) from rfl, ← h]
  exact heap_alloc_new w _

theorem infoO : (Tryd.prog.info? 39).map (·.size) = some 2 := by kernel_rfl

set_option maxRecDepth 100000 in
theorem rat_any (base : Nat) (w : World) (q : Nat) (s : Int → Int × Int) (hT : Dt base w q s) (id : Int) :
    Calls Tryd.prog 17 #[.pointer (some ⟨q, 0, none⟩), .int .i64 id] w fun e w' => e = .returned (obv (s id)) ∧ Below w.heap.size w w' := by
  have hlt := hT.lt
  by_cases h0 : id < 0
  · have e1 : decide (id < 0) = true := decide_eq_true h0
    have hz : s id = (0, 0) := hT.gd.zero id (Classical.byContradiction fun h => by have := hT.gd.dom id h; omega)
    rw [hz]
    clear hT hz
    go_enter Tryd.func17, Tryd.ntmps17
    go_wp2
    refine bodyPost_ret (results_cell_row rfl _ _ w.heap.size _ _ _ _ rfl (heap_alloc_new w _) Tryd.underlying39 rfl infoO) rfl ?_
    exact ⟨rfl, (Below.refl _ _).alloc (Nat.le_refl _) _⟩
  · have e1 : decide (id < 0) = false := decide_eq_false h0
    by_cases h1 : 255 < id
    · have e2 : decide (255 < id) = true := decide_eq_true h1
      have hz : s id = (0, 0) := hT.gd.zero id (Classical.byContradiction fun h => by have := hT.gd.dom id h; omega)
      rw [hz]
      clear hT hz
      go_enter Tryd.func17, Tryd.ntmps17
      go_wp2
      refine bodyPost_ret (results_cell_row rfl _ _ w.heap.size _ _ _ _ rfl (heap_alloc_new w _) Tryd.underlying39 rfl infoO) rfl ?_
      exact ⟨rfl, (Below.refl _ _).alloc (Nat.le_refl _) _⟩
    · have e2 : decide (255 < id) = false := decide_eq_false h1
      obtain ⟨i, rfl⟩ : ∃ i : Nat, id = i := ⟨id.toNat, by omega⟩
      have c0 := hT.even i (by omega)
      have c1 := hT.odd i (by omega)
      clear hT
      go_enter Tryd.func17, Tryd.ntmps17
      go_wp2
      refine bodyPost_ret (results_cell_row rfl _ _ w.heap.size _ _ _ _ rfl (heap_alloc_new w _) Tryd.underlying39 rfl infoO) rfl ?_
      exact ⟨rfl, (Below.refl _ _).alloc (Nat.le_refl _) _⟩

theorem fldO0 (f v : Int) (w : World) : (Instr.field 39 (.agg #[.int .i64 f, .int .i64 v]) 0).run Tryd.prog w = .ok (.int .i64 f) w := by kernel_rfl
theorem fldO1 (f v : Int) (w : World) : (Instr.field 39 (.agg #[.int .i64 f, .int .i64 v]) 1).run Tryd.prog w = .ok (.int .i64 v) w := by kernel_rfl

set_option maxRecDepth 100000 in
theorem rwant_any (base : Nat) (w : World) (q : Nat) (s : Int → Int × Int) (hT : Dt base w q s) (id face : Int) :
    Calls Tryd.prog 13 #[.pointer (some ⟨q, 0, none⟩), .int .i64 id, .int .i64 face] w fun e w' => e = .returned (.int .i64 (wantE s id face : Nat)) ∧ Below w.heap.size w w' := by
  have HA := hid (rat_any base w q s hT id)
  rw [obv] at HA
  have hf := fldO0
  obtain ⟨F, hF⟩ : ∃ F, F = (s id).1 := ⟨_, rfl⟩
  have HW : Hid (wantE s id face = if F = 0 ∨ F ≠ face then 5 else 0) := by rw [hF]; rfl
  rw [← hF] at HA
  clear hT hF
  by_cases h1 : F = face
  · subst h1
    by_cases h0 : F = 0
    · have e0 : decide (F = 0) = true := decide_eq_true h0
      go_enter Tryd.func13, Tryd.ntmps13
      go_wp2_with fail
      refine HA.out.mono ?_
      rintro e w1 ⟨rfl, hb⟩
      go_wp2
      go_ret
      rw [HW.out, if_pos (.inl h0)]
      exact ⟨rfl, hb⟩
    · have e0 : decide (F = 0) = false := decide_eq_false h0
      go_enter Tryd.func13, Tryd.ntmps13
      go_wp2_with fail
      refine HA.out.mono ?_
      rintro e w1 ⟨rfl, hb⟩
      go_wp2
      go_ret
      rw [HW.out, if_neg (by omega)]
      exact ⟨rfl, hb⟩
  · have e1 : decide (F = face) = false := decide_eq_false h1
    go_enter Tryd.func13, Tryd.ntmps13
    go_wp2_with fail
    refine HA.out.mono ?_
    rintro e w1 ⟨rfl, hb⟩
    go_wp2
    go_ret
    rw [HW.out, if_pos (.inr h1)]
    exact ⟨rfl, hb⟩

/-- Two cells written. -/
theorem Dt.set {base : Nat} {w : World} {q : Nat} {s : Int → Int × Int} (h : Dt base w q s) (i : Nat) (hi : i < 256) (x : Int × Int) (hg : Gd (upd s i x)) : Dt base ((w.setCell ⟨q, i * 2, none⟩ (.int .i64 x.1)).setCell ⟨q, i * 2 + 1, none⟩ (.int .i64 x.2)) q (upd s i x) := by
  refine ⟨h.lo, ?_, hg⟩
  rw [heap_setCell_same _ _ _ _ _ _ (heap_setCell_same _ _ _ _ _ _ h.var), dc_set s i hi x]
theorem kp_two (w : World) (q i j : Nat) (u v : Value) : Kp [q] w ((w.setCell ⟨q, i, none⟩ u).setCell ⟨q, j, none⟩ v) := ((Kp.refl [q] w).set ⟨q, i, none⟩ (by simp) u).set ⟨q, j, none⟩ (by simp) v

set_option maxRecDepth 100000 in
theorem rdrop_any (base : Nat) (w : World) (q : Nat) (s : Int → Int × Int) (hT : Dt base w q s) (id : Int) :
    Calls Tryd.prog 11 #[.pointer (some ⟨q, 0, none⟩), .int .i64 id] w fun e w' => e = .returned (.int .i64 (dropE s id : Nat)) ∧ Dt base w' q (dropS s id) ∧ Kp [q] w w' := by
  have HA := hid (rat_any base w q s hT id)
  rw [obv] at HA
  have hf := fldO0
  have hgd := hT.gd.dom id
  by_cases hk : id = 1 ∨ (s id).1 = 0
  · have hE : dropE s id = 5 := by rw [dropE, if_pos hk]
    have HT : Hid (∀ u : World, Below w.heap.size w u → Dt base u q (dropS s id) ∧ Kp [q] w u) := fun u hb => ⟨by rw [dropS, hE, if_neg (by omega)]; exact hT.on hb, kp_of_below hb _⟩
    rw [hE]
    clear hT
    by_cases h1 : id < 2
    · have e1 : decide (id < 2) = true := decide_eq_true h1
      go_enter Tryd.func11, Tryd.ntmps11
      go_wp2
      go_ret
      exact ⟨rfl, HT.out _ (Below.refl _ _)⟩
    · have e1 : decide (id < 2) = false := decide_eq_false h1
      rw [show (s id).1 = 0 by omega] at HA
      go_enter Tryd.func11, Tryd.ntmps11
      go_wp2_with fail
      refine HA.out.mono ?_
      rintro e w1 ⟨rfl, hb⟩
      go_wp2
      go_ret
      exact ⟨rfl, HT.out _ hb⟩
  · have hE : dropE s id = 0 := by rw [dropE, if_neg hk]
    have h0 : ¬ (s id).1 = 0 := by omega
    have h1 := hgd h0
    obtain ⟨i, rfl⟩ : ∃ i : Nat, id = i := ⟨id.toNat, by omega⟩
    have e1 : decide ((i : Int) < 2) = false := decide_eq_false (by omega)
    have e2 : decide ((s i).1 = 0) = false := decide_eq_false h0
    have HT : Hid (∀ u : World, Below w.heap.size w u → (q < u.heap.size ∧ u.cell? ⟨q, i * 2, none⟩ = some (.int .i64 (s i).1) ∧ u.cell? ⟨q, i * 2 + 1, none⟩ = some (.int .i64 (s i).2) ∧ (∀ j, u.frozen? ⟨q, j, none⟩ = false)) ∧ Dt base ((u.setCell ⟨q, i * 2, none⟩ (.int .i64 0)).setCell ⟨q, i * 2 + 1, none⟩ (.int .i64 0)) q (dropS s i) ∧ Kp [q] w ((u.setCell ⟨q, i * 2, none⟩ (.int .i64 0)).setCell ⟨q, i * 2 + 1, none⟩ (.int .i64 0))) := fun u hb => by
      have h := hT.on hb
      refine ⟨⟨h.lt, h.even i (by omega), h.odd i (by omega), Lib.frozen_of_heap h.var⟩, ?_, (kp_of_below hb [q]).trans (kp_two _ _ _ _ _ _) (fun k hk _ => hk)⟩
      rw [dropS, hE, if_pos rfl]
      exact h.set i (by omega) (0, 0) (h.gd.del _)
    rw [hE]
    clear hT hk hgd
    go_enter Tryd.func11, Tryd.ntmps11
    go_wp2_with fail
    refine HA.out.mono ?_
    rintro e w1 ⟨rfl, hb⟩
    obtain ⟨⟨l1, c0, c1, f1⟩, hD⟩ := HT.out _ hb
    have HD := hid hD
    clear hD HT HA
    go_wp2
    -- HERE
    go_ret
    exact ⟨rfl, HD.out⟩
end Go.Proofs.YtaeeheaghfehaaaDoor
