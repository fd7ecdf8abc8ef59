/- The contracts of the program's canvas, I: New, Size, area, row, At, Pixels, Copy. -/
import Derived.Test.YtldnggokkkhihaaDoorCanA
import Derived.Test.YtldnggokkkhihaaDoorLibA
import Derived.Test.YtldnggokkkhihaaDoorLibF
import Derived.Test.YtldnggokkkhihaaDoorRectC
import Derived.Test.YtldnggokkkhihaaDoorPixA
import Derived.Laws.OwnMore
import Derived.Laws.CopyRow
import Derived.BigQuiet
namespace Go.Proofs.YtldnggokkkhihaaDoor
open Go Go.RowKit

def e32 (z : Int) : Value := .int .u32 z

/-- A canvas of W and H at p (a struct of the type ty), its points at b: they are L. -/
structure Cv (ty : Nat) (w : World) (p b W H : Nat) (L : List Int) : Prop where
  ne : p ≠ b
  var : w.heap[p]? = some (.cells #[.int .i64 (W : Nat), .int .i64 (H : Nat), .slice (some ⟨b, 0, none⟩) (W * H) (W * H)] ty (0, 0))
  row : w.ownsRow 0 35 1 (.slice (some ⟨b, 0, none⟩) (W * H) (W * H)) (W * H) (L.map e32)
  col : ∀ z ∈ L, Col z
  hW : 1 ≤ W ∧ W ≤ 48
  hH : 1 ≤ H ∧ H ≤ 48

variable {ty : Nat} {w w' : World} {p b W H : Nat} {L : List Int}

theorem Cv.len (h : Cv ty w p b W H L) : L.length = W * H := by
  have := h.row.1
  rw [List.length_map, Nat.mul_one] at this
  exact this
theorem Cv.small (h : Cv ty w p b W H L) : W * H ≤ 2304 := Nat.mul_le_mul h.hW.2 h.hH.2
theorem Cv.pos (h : Cv ty w p b W H L) : 1 ≤ W * H := Nat.mul_le_mul h.hW.1 h.hH.1
theorem Cv.lt (h : Cv ty w p b W H L) : p < w.heap.size ∧ b < w.heap.size :=
  ⟨(Array.getElem?_eq_some_iff.1 h.var).1, (h.row.lt b rfl).2⟩
theorem Cv.kept {X : List Nat} (h : Cv ty w p b W H L) (hk : Kp X w w') (hp : p ∉ X) (hb : b ∉ X) : Cv ty w' p b W H L :=
  ⟨h.ne, hk.var h.var hp, hk.row h.row (fun k e => by
    simp only [Value.ownBlock, Option.some.injEq] at e
    rw [← e]
    exact hb), h.col, h.hW, h.hH⟩
theorem Cv.on (h : Cv ty w p b W H L) (hb : Below w.heap.size w w') : Cv ty w' p b W H L := h.kept (kp_of_below hb []) (by simp) (by simp)
theorem Cv.c0 (h : Cv ty w p b W H L) : w.cell? ⟨p, 0, none⟩ = some (.int .i64 (W : Nat)) := by rw [Lib.cell_of_heap h.var]; rfl
theorem Cv.c1 (h : Cv ty w p b W H L) : w.cell? ⟨p, 1, none⟩ = some (.int .i64 (H : Nat)) := by rw [Lib.cell_of_heap h.var]; rfl
theorem Cv.c2 (h : Cv ty w p b W H L) : w.cell? ⟨p, 2, none⟩ = some (.slice (some ⟨b, 0, none⟩) (W * H) (W * H)) := by rw [Lib.cell_of_heap h.var]; rfl
theorem Cv.cell (h : Cv ty w p b W H L) {i : Nat} {z : Int} (hz : L[i]? = some z) : w.cell? ⟨b, i, none⟩ = some (.int .u32 z) := by
  have hi := (List.getElem?_eq_some_iff.1 hz).1
  rw [h.row.cellAt i (by rw [Nat.mul_one, ← h.len]; exact hi), List.getElem?_map, hz]
  rfl
theorem Cv.fz (h : Cv ty w p b W H L) (i : Nat) : w.frozen? ⟨b, i, none⟩ = false := h.row.frozenAt i
theorem Cv.set (h : Cv ty w p b W H L) (i : Nat) {z : Int} (hz : Col z) : Cv ty (w.setCell ⟨b, i, none⟩ (.int .u32 z)) p b W H (L.set i z) := by
  have hr := (h.row.stored i (.int .u32 z)).1
  rw [show Value.int .u32 z = e32 z from rfl, ← List.map_set] at hr
  exact ⟨h.ne, by rw [heap_setCell_other _ _ _ _ h.ne]; exact h.var, hr, fun y hy => by
    rcases List.mem_or_eq_of_mem_set hy with h' | h'
    · exact h.col y h'
    · rw [h']; exact hz, h.hW, h.hH⟩
theorem Cv.at_ (h : Cv ty w p b W H L) {x y : Nat} (hx : x < W) (hy : y < H) : ∃ z, L[y * W + x]? = some z ∧ Col z := by
  have hl : y * W + x < L.length := by rw [h.len]; exact place_lt hx hy
  exact ⟨_, List.getElem?_eq_getElem hl, h.col _ (List.getElem_mem hl)⟩

theorem info32 : (Tryd.prog.info? 35).map (fun i => (i.zero, i.size, i.bytes)) = some (some (.int .u32 0), 1, 4) := by kernel_rfl
theorem info32p : ∃ i, Tryd.prog.info? 35 = some i ∧ i.zero = some (.int .u32 0) ∧ i.size = 1 ∧ i.bytes = 4 := by
  obtain ⟨i, h1, h2⟩ := Option.map_eq_some_iff.1 info32
  simp only [Prod.mk.injEq] at h2
  exact ⟨i, h1, h2.1, h2.2.1, h2.2.2⟩
theorem size32 : (Tryd.prog.info? 35).map (·.size) = some 1 := by
  obtain ⟨i, hi, _, h1, _⟩ := info32p
  rw [hi]
  exact congrArg some h1

/-- 'make([]uint32, n)': n noughts, in a block of its own. -/
theorem make32 (w : World) (n : Nat) (hn : n ≤ 2304) : ∃ w1, (Instr.makeSlice 36 (.int .i64 (n : Int)) (.int .i64 (n : Int))).run Tryd.prog w = .ok (.slice (some ⟨w.heap.size, 0, none⟩) n n) w1 ∧ Below w.heap.size w w1 ∧ w1.ownsRow w.heap.size 35 1 (.slice (some ⟨w.heap.size, 0, none⟩) n n) n ((List.replicate n 0).map e32) := by
  obtain ⟨i0, hi, hz0, hz1, hz2⟩ := info32p
  obtain ⟨w1, hmk, ho1, hg1⟩ := run_make_full (P := Tryd.prog) w w.heap.size 36 35 i0 (.int .u32 0) 1 Tryd.underlying36 hi hz0 hz1 .i64 .i64 n (by rw [hz2]; omega) (by simp only [maxLen]; omega) (Nat.le_refl _)
  refine ⟨w1, hmk, (Below.refl _ _).grown hg1 (Nat.le_refl _) (fun k hk => by cases hk), ?_⟩
  have e : (madeCells (Value.int .u32 0).cells (n * 1)).toList = (List.replicate n 0).map e32 := by
    rw [Nat.mul_one, List.map_replicate]
    exact toList_madeCells_one _ n
  rwa [e] at ho1

/-- The struct laid behind its points. -/
theorem cv_new {base : Nat} {u : World} {g : Nat} (ty : Nat) (hr : u.ownsRow base 35 1 (.slice (some ⟨g, 0, none⟩) (W * H) (W * H)) (W * H) (L.map e32)) (hc : ∀ z ∈ L, Col z) (hW : 1 ≤ W ∧ W ≤ 48) (hH : 1 ≤ H ∧ H ≤ 48) :
    Cv ty (u.alloc (.cells #[.int .i64 (W : Nat), .int .i64 (H : Nat), .slice (some ⟨g, 0, none⟩) (W * H) (W * H)] ty)) u.heap.size g W H L := by
  have hg := (hr.lt g rfl).2
  refine ⟨by omega, heap_alloc_new u _, ?_, hc, hW, hH⟩
  exact ownsRow_below (ownsRow_low hr (Nat.zero_le _)) ((Below.refl _ _).alloc (Nat.le_refl _) _)

theorem between_any (l n h : Int) (w : World) : Calls Tryd.prog 20 #[.int .i64 l, .int .i64 n, .int .i64 h] w fun e w' => e = .returned (.bool (decide (l ≤ n) && decide (n ≤ h))) ∧ w' = w := by
  go_enter Tryd.func20, Tryd.ntmps20
  cases h1 : decide (l ≤ n) <;> cases h2 : decide (n ≤ h)
  all_goals
    go_wp2
    go_ret
    exact ⟨rfl, rfl⟩

/-- Whether a side may be. -/
def side (n : Int) : Bool := decide (1 ≤ n) && decide (n ≤ 48)

/-- What New, Copy hand back: a canvas of the call's own. -/
def Own (ty : Nat) (w : World) (W H : Nat) (L : List Int) (f : Value → Value) (e : Ending) (w' : World) : Prop :=
  ∃ p b, e = .returned (f (.pointer (some ⟨p, 0, none⟩))) ∧ Below w.heap.size w w' ∧ Cv ty w' p b W H L ∧ w.heap.size ≤ p ∧ w.heap.size ≤ b

set_option maxRecDepth 100000 in
/-- New, where the sides may be. -/
theorem cnew_any (w : World) (W H : Nat) (hW : 1 ≤ W ∧ W ≤ 48) (hH : 1 ≤ H ∧ H ≤ 48) :
    Calls Tryd.prog 7 #[.int .i64 (W : Nat), .int .i64 (H : Nat)] w (Own 55 w W H (List.replicate (W * H) 0) fun v => .tuple #[v, .nilIface]) := by
  obtain ⟨n, hn⟩ : ∃ n, W * H = n := ⟨_, rfl⟩
  have hs : n ≤ 2304 := by rw [← hn]; exact Nat.mul_le_mul hW.2 hH.2
  have m1 : (W : Int) * (H : Int) = (n : Int) := by rw [← hn, Int.natCast_mul]
  have CW := hid (between_any 1 W 48 w)
  have CH := hid (between_any 1 H 48 w)
  rw [show (decide ((1 : Int) ≤ W) && decide ((W : Int) ≤ 48)) = true by simp; omega] at CW
  rw [show (decide ((1 : Int) ≤ H) && decide ((H : Int) ≤ 48)) = true by simp; omega] at CH
  obtain ⟨w1, hmk, hb1, ho1⟩ := make32 w n hs
  have hs1 := hb1.size
  have HN := hid hn
  have HB := hid hb1
  have HO := hid ho1
  clear hn hb1 ho1
  go_enter Tryd.func7, Tryd.ntmps7
  go_wp2_with fail
  refine CW.out.mono ?_
  rintro e w2 ⟨rfl, rfl⟩
  go_wp2_with fail
  refine CH.out.mono ?_
  rintro e w2 ⟨rfl, rfl⟩
  go_wp2
  go_ret2
  subst HN
  exact ⟨_, _, rfl, HB.out.alloc hs1 _, cv_new 55 HO.out (fun z hz => by rw [List.eq_of_mem_replicate hz, Col]; decide) hW hH, hs1, Nat.le_refl _⟩

set_option maxRecDepth 100000 in
/-- New, where one of them may not. -/
theorem cnew_no (w : World) (m n : Int) (hE : Arg w) (h : (side m && side n) = false) :
    Calls Tryd.prog 7 #[.int .i64 m, .int .i64 n] w fun e w' => (∃ a, e = .returned (.tuple #[.pointer none, .iface 122 (.pointer (some a))])) ∧ Below w.heap.size w w' := by
  obtain ⟨a, ha⟩ := hE
  have CW := hid (between_any 1 m 48 w)
  have CH := hid (between_any 1 n 48 w)
  rw [show (decide ((1 : Int) ≤ m) && decide (m ≤ 48)) = side m from rfl] at CW
  rw [show (decide ((1 : Int) ≤ n) && decide (n ≤ 48)) = side n from rfl] at CH
  go_enter Tryd.func7, Tryd.ntmps7
  cases hm : side m
  · rw [hm] at CW
    clear h CH
    go_wp2_with fail
    refine CW.out.mono ?_
    rintro e w2 ⟨rfl, rfl⟩
    go_wp2
    go_quiet (fail)
    go_wp2
    go_ret2
    exact ⟨⟨_, rfl⟩, below_drewN (Below.refl _ _) _⟩
  · rw [hm, Bool.true_and] at h
    rw [hm] at CW
    rw [h] at CH
    go_wp2_with fail
    refine CW.out.mono ?_
    rintro e w2 ⟨rfl, rfl⟩
    go_wp2_with fail
    refine CH.out.mono ?_
    rintro e w2 ⟨rfl, rfl⟩
    go_wp2
    go_quiet (fail)
    go_wp2
    go_ret2
    exact ⟨⟨_, rfl⟩, below_drewN (Below.refl _ _) _⟩

set_option maxRecDepth 100000 in
theorem csize_any (h : Cv 55 w p b W H L) : Calls Tryd.prog 10 #[.pointer (some ⟨p, 0, none⟩)] w fun e w' => e = .returned (.tuple #[.int .i64 (W : Nat), .int .i64 (H : Nat)]) ∧ Below w.heap.size w w' := by
  have c0 := h.c0
  have c1 := h.c1
  have l0 := h.lt.1
  clear h
  go_enter Tryd.func10, Tryd.ntmps10
  go_wp2
  go_quiet (fail)
  go_wp2
  go_ret2
  exact ⟨rfl, below_drewN (Below.refl _ _) _⟩

/-- The rectangle of all points. -/
def ara (W H : Nat) : Rc := ⟨0, 0, W, H⟩

set_option maxRecDepth 100000 in
set_option maxHeartbeats 4000000 in
theorem carea_any (h : Cv 55 w p b W H L) : Calls Tryd.prog 32 #[.pointer (some ⟨p, 0, none⟩)] w fun e w' => e = .returned (.agg #[.int .i64 0, .int .i64 0, .int .i64 (W : Nat), .int .i64 (H : Nat)]) ∧ Below w.heap.size w w' := by
  have l0 := h.lt.1
  have c0 := h.c0
  have c1 := h.c1
  have HB := hid (bx_new w rz)
  obtain ⟨d0, d1, d2, d3⟩ := HB.out.all
  have fz := HB.out.fz
  clear h HB
  go_enter Tryd.func32, Tryd.ntmps32
  go_wp2
  refine wp_region_held_drew (S := fun x => x.cell? ⟨p, 0, none⟩ = some (.int .i64 (W : Nat)) ∧ x.cell? ⟨p, 1, none⟩ = some (.int .i64 (H : Nat))) (by kernel_rfl) ?hh (fun hHeld => ?_)
  case hh => exact (⟨by go_simp, by go_simp⟩)
  refine wpAnyH_take (i := 0) (v := ?_) rfl (by kernel_rfl) (by kernel_rfl) (by kernel_rfl) (fun _ _ _ h => h) (Or.inl ⟨by kernel_rfl, ?hy0⟩) (by assumption) ?_
  case hy0 => (intro w hSw; (try dsimp only at hSw); obtain ⟨t0, t1⟩ := hSw; go_simp; try with_reducible rfl)
  try simp only [Act.put, List.getElem_toArray, List.getElem_cons_zero, List.setIfInBounds_toArray, List.set_cons_zero, List.set_cons_succ]
  refine wpAnyH_take (i := 1) (v := ?_) rfl (by kernel_rfl) (by kernel_rfl) (by kernel_rfl) (fun _ _ _ h => h) (Or.inl ⟨by kernel_rfl, ?hy1⟩) (by assumption) ?_
  case hy1 => (intro w hSw; (try dsimp only at hSw); obtain ⟨t0, t1⟩ := hSw; go_simp; try with_reducible rfl)
  try simp only [Act.put, List.getElem_toArray, List.getElem_cons_zero, List.getElem_cons_succ, List.setIfInBounds_toArray, List.set_cons_zero, List.set_cons_succ]
  refine wpAnyH_take (i := 2) (v := ?_) rfl (by kernel_rfl) (by kernel_rfl) (by kernel_rfl) (fun _ _ _ h => h) (Or.inl ⟨by kernel_rfl, ?hy2⟩) (by assumption) ?_
  case hy2 => (intro w hSw; (try dsimp only at hSw); obtain ⟨t0, t1⟩ := hSw; go_simp; try with_reducible rfl)
  try simp only [Act.put, List.getElem_toArray, List.getElem_cons_zero, List.getElem_cons_succ, List.setIfInBounds_toArray, List.set_cons_zero, List.set_cons_succ]
  refine wpAnyH_take (i := 3) (v := ?_) rfl (by kernel_rfl) (by kernel_rfl) (by kernel_rfl) (fun _ _ _ h => h) (Or.inl ⟨by kernel_rfl, ?hy3⟩) (by assumption) ?_
  case hy3 => (intro w hSw; (try dsimp only at hSw); obtain ⟨t0, t1⟩ := hSw; go_simp; try with_reducible rfl)
  try simp only [Act.put, List.getElem_toArray, List.getElem_cons_zero, List.getElem_cons_succ, List.setIfInBounds_toArray, List.set_cons_zero, List.set_cons_succ]
  refine wpAnyH_take (i := 4) (v := ?_) rfl (by kernel_rfl) (by kernel_rfl) (by kernel_rfl) (fun _ _ _ h => h) (Or.inl ⟨by kernel_rfl, ?hy4⟩) (by assumption) ?_
  case hy4 => (intro w hSw; (try dsimp only at hSw); obtain ⟨t0, t1⟩ := hSw; go_simp; try with_reducible rfl)
  try simp only [Act.put, List.getElem_toArray, List.getElem_cons_zero, List.getElem_cons_succ, List.setIfInBounds_toArray, List.set_cons_zero, List.set_cons_succ]
  refine wpAnyH_take (i := 5) (v := ?_) rfl (by kernel_rfl) (by kernel_rfl) (by kernel_rfl) (fun _ _ _ h => h) (Or.inl ⟨by kernel_rfl, ?hy5⟩) (by assumption) ?_
  case hy5 => (intro w hSw; (try dsimp only at hSw); obtain ⟨t0, t1⟩ := hSw; go_simp; try with_reducible rfl)
  try simp only [Act.put, List.getElem_toArray, List.getElem_cons_zero, List.getElem_cons_succ, List.setIfInBounds_toArray, List.set_cons_zero, List.set_cons_succ]
  refine wpAnyH_take (i := 6) (v := ?_) rfl (by kernel_rfl) (by kernel_rfl) (by kernel_rfl) (fun _ _ _ h => h) (Or.inl ⟨by kernel_rfl, ?hy6⟩) (by assumption) ?_
  case hy6 => (intro w hSw; (try dsimp only at hSw); obtain ⟨t0, t1⟩ := hSw; go_simp; try with_reducible rfl)
  try simp only [Act.put, List.getElem_toArray, List.getElem_cons_zero, List.getElem_cons_succ, List.setIfInBounds_toArray, List.set_cons_zero, List.set_cons_succ]
  refine wpAnyH_take (i := 7) (v := ?_) rfl (by kernel_rfl) (by kernel_rfl) (by kernel_rfl) (fun _ _ _ h => h) (Or.inl ⟨by kernel_rfl, ?hy7⟩) (by assumption) ?_
  case hy7 => (intro w hSw; (try dsimp only at hSw); obtain ⟨t0, t1⟩ := hSw; go_simp; try with_reducible rfl)
  try simp only [Act.put, List.getElem_toArray, List.getElem_cons_zero, List.getElem_cons_succ, List.setIfInBounds_toArray, List.set_cons_zero, List.set_cons_succ]
  refine wpAnyH_take (i := 8) (v := ?_) rfl (by kernel_rfl) (by kernel_rfl) (by kernel_rfl) (fun _ _ _ h => h) (Or.inl ⟨by kernel_rfl, ?hy8⟩) (by assumption) ?_
  case hy8 => (intro w hSw; (try dsimp only at hSw); obtain ⟨t0, t1⟩ := hSw; go_simp; try with_reducible rfl)
  try simp only [Act.put, List.getElem_toArray, List.getElem_cons_zero, List.getElem_cons_succ, List.setIfInBounds_toArray, List.set_cons_zero, List.set_cons_succ]
  refine wpAnyH_ready (rs := [9]) (by kernel_rfl) (by simp) ?_
  refine AllReadyH.cons rfl (fun K hK => ?_) AllReadyH.nil
  go_simp
  refine hK.out _ _ ⟨by go_simp, by go_simp⟩ (fun _ => ?_)
  clear hK K hHeld
  refine wpAnyH_done (by kernel_rfl) ?_ _
  go_wp2
  refine bodyPost_ret (results_cell_row rfl _ _ w.heap.size _ _ _ _ rfl (bx_new w (ara W H)).drew.obj Tryd.underlying44 rfl infoR) rfl ?_
  exact ⟨rfl, (below_new w (ob (ara W H))).drew⟩

set_option maxRecDepth 100000 in
theorem row_any (h : Cv 55 w p b W H L) (y : Nat) (hy : y < H) : Calls Tryd.prog 33 #[.pointer (some ⟨p, 0, none⟩), .int .i64 (y : Nat)] w fun e w' => e = .returned (.slice (some ⟨b, y * W, none⟩) W W) ∧ ∃ q, w' = w.drewN q := by
  obtain ⟨n, hn⟩ : ∃ n, W * H = n := ⟨_, rfl⟩
  obtain ⟨f, hf⟩ : ∃ f, y * W = f := ⟨_, rfl⟩
  have hfn : f + W ≤ n := by
    have : (y + 1) * W ≤ H * W := Nat.mul_le_mul_right W hy
    rw [Nat.add_mul, Nat.one_mul, hf, Nat.mul_comm H W, hn] at this
    exact this
  have m1 : (y : Int) * (W : Int) = (f : Int) := by rw [← hf, Int.natCast_mul]
  have m2 : ((y : Int) + 1) * (W : Int) = ((f + W : Nat) : Int) := by rw [Int.add_mul, Int.one_mul, m1]; omega
  have hs := h.small
  rw [hn] at hs
  have c0 := h.c0
  have c2 := h.c2
  have l0 := h.lt.1
  have hW := h.hW
  have hH := h.hH
  rw [hn] at c2
  rw [hf]
  clear h hn hf
  go_enter Tryd.func33, Tryd.ntmps33
  go_wp2
  go_quiet (fail)
  go_wp2
  go_ret
  have e : f + W - f = W := by omega
  exact ⟨by simp only [e]; rfl, _, rfl⟩

theorem has_ara (hW : 1 ≤ W) (hH : 1 ≤ H) (x y : Int) : has (ara W H) x y = (decide (0 ≤ x) && decide (x < W) && (decide (0 ≤ y) && decide (y < H))) := by
  have e : emp (ara W H) = false := by
    rw [emp, Bool.or_eq_false_iff, decide_eq_false_iff_not, decide_eq_false_iff_not]
    simp only [ara]
    omega
  rw [has, e]
  simp only [wth, ara, Int.sub_zero, Bool.not_false, Bool.true_and]
  rfl

/-- The point (x, y), 0 of one that is none. -/
def atv (W H : Nat) (L : List Int) (x y : Int) : Int := if has (ara W H) x y then L.getD (y.toNat * W + x.toNat) 0 else 0

theorem ara_ok (h : Cv ty w p b W H L) : (ara W H).Ok := by
  have := h.hW
  have := h.hH
  exact ⟨by simp [ara], by simp [ara], by simp [ara]; omega, by simp [ara]; omega⟩

set_option maxRecDepth 100000 in
theorem at_any (h : Cv 55 w p b W H L) (x y : Int) (hx : I64 x) (hy : I64 y) : Calls Tryd.prog 15 #[.pointer (some ⟨p, 0, none⟩), .int .i64 x, .int .i64 y] w fun e w' => e = .returned (.int .u32 (atv W H L x y)) ∧ Below w.heap.size w w' := by
  have HC := hid h
  have CA := hid (carea_any h)
  have CH := hid (fun u => has_any (ara W H) (ara_ok h) x y hx hy u)
  have HH := hid (has_ara h.hW.1 h.hH.1 x y)
  have HE : Hid (atv W H L x y = if has (ara W H) x y then L.getD (y.toNat * W + x.toNat) 0 else 0) := rfl
  generalize atv W H L x y = v at *
  clear h
  go_enter Tryd.func15, Tryd.ntmps15
  go_wp2_with fail
  refine CA.out.mono ?_
  rintro e w1 ⟨rfl, hb1⟩
  have HB1 := hid hb1
  clear hb1 CA
  cases hh : has (ara W H) x y
  · rw [hh] at CH HE
    have hv : v = 0 := HE.out
    subst hv
    go_wp2_with fail
    refine (CH.out _).mono ?_
    rintro e w2 ⟨rfl, hb2⟩
    go_wp2
    go_ret
    exact ⟨rfl, Below.on HB1.out hb2⟩
  · rw [hh] at CH HH HE
    have hq := HH.out.symm
    simp only [Bool.and_eq_true, decide_eq_true_eq] at hq
    obtain ⟨⟨q1, q2⟩, q3, q4⟩ := hq
    obtain ⟨i, rfl⟩ := Int.eq_ofNat_of_zero_le q1
    obtain ⟨j, rfl⟩ := Int.eq_ofNat_of_zero_le q3
    have hi : i < W := by omega
    have hj : j < H := by omega
    obtain ⟨z, hz, _⟩ := HC.out.at_ hi hj
    have hv : v = z := by
      rw [HE.out]
      simp [List.getD, hz]
    subst hv
    go_wp2_with fail
    refine (CH.out _).mono ?_
    rintro e w2 ⟨rfl, hb2⟩
    have HB2 := hid (Below.on HB1.out hb2)
    have HC2 := hid (HC.out.on HB2.out)
    clear hb2 CH
    go_wp2_with fail
    refine (row_any HC2.out j hj).mono ?_
    rintro e w3 ⟨rfl, q, rfl⟩
    have c := HC2.out.cell hz
    clear HH HE
    go_wp2
    go_ret
    exact ⟨rfl, below_drewN HB2.out q⟩

/-- 'copy' of points into a row of the call's own that is just as long. -/
theorem copy32 {base : Nat} (u : World) (g n : Nat) (M : List Int) (hO : u.ownsRow base 35 1 (.slice (some ⟨g, 0, none⟩) n n) n (M.map e32)) (x : Addr) (c : Nat) (L : List Int) (hl : L.length = n) (hc : ∀ j z, L[j]? = some z → u.cell? (x.add j) = some (.int .u32 z)) :
    ∃ U, (∀ ty : TypeId, (Builtin.copy_ #[36, 36] ty #[.slice (some ⟨g, 0, none⟩) n n, .slice (some x) n c]).run Tryd.prog u = .ok (goInt n) U) ∧ U.ownsRow base 35 1 (.slice (some ⟨g, 0, none⟩) n n) n (L.map e32) ∧ Kp [g] u U := by
  rcases hO.2 with ⟨e0, _⟩ | ⟨g', cap, cur, e0, hb, hg, hn, hm, hcs, ht⟩
  · cases e0
  · cases e0
    have hlen : (L.map e32).length = n := by rw [List.length_map, hl]
    have h1 : ∀ v ∈ L.map e32, v.oneCell' = true := fun v hv => by
      obtain ⟨z, _, rfl⟩ := List.mem_map.1 hv
      rfl
    have hrun : ∀ ty, (Builtin.copy_ #[36, 36] ty #[.slice (some ⟨g, 0, none⟩) n n, .slice (some x) n c]).run Tryd.prog u = _ := fun ty => run_copy_row (P := Tryd.prog) u 36 36 ty 35 g 0 n n x n c cur 35 (L.map e32) Tryd.underlying36 size32 hg (by rw [hlen]; exact (Nat.min_self n).symm) (fun j v hj => by
      rw [List.getElem?_map] at hj
      obtain ⟨z, hz, rfl⟩ := Option.map_eq_some_iff.1 hj
      exact hc j z hz) (by rw [hlen, hcs]; omega) h1
    rw [hlen] at hrun
    refine ⟨_, hrun, ⟨by rw [hlen, Nat.mul_one], .inr ⟨g, n, _, rfl, hb, setRow_heap u g cur _ 35 _ hg, Nat.le_refl _, hm, ?_, ?_⟩⟩, ⟨rfl, rfl, rfl, by simp, fun k _ hk => setRow_other u g k _ (fun e => hk (by simp [e]))⟩⟩
    · simp [hl, hcs]
    · simp [hl]

set_option maxRecDepth 100000 in
theorem pixels_any (h : Cv 55 w p b W H L) : Calls Tryd.prog 18 #[.pointer (some ⟨p, 0, none⟩)] w fun e w' => ∃ g, e = .returned (.slice (some ⟨g, 0, none⟩) (W * H) (W * H)) ∧ w.heap.size ≤ g ∧ w'.ownsRow w.heap.size 35 1 (.slice (some ⟨g, 0, none⟩) (W * H) (W * H)) (W * H) (L.map e32) ∧ Below w.heap.size w w' := by
  obtain ⟨n, hn⟩ : ∃ n, W * H = n := ⟨_, rfl⟩
  have hs := h.small
  have c2 := h.c2
  have hl := h.len
  rw [hn] at hs c2 hl
  have l0 := h.lt.1
  obtain ⟨w1, hmk, hb1, ho1⟩ := make32 w n hs
  have h1 := h.on hb1
  have c2' := h1.c2
  rw [hn] at c2'
  obtain ⟨U, hcp, ho2, hk2⟩ := copy32 w1 w.heap.size n _ ho1 ⟨b, 0, none⟩ n L hl (fun j z hz => by
    rw [Go.WideShapes.add_plain, Nat.zero_add]
    exact h1.cell hz)
  have HB := hid (hb1.trans (hk2.below hb1.size (by simp)))
  have HO := hid ho2
  have hs1 := hb1.size
  rw [hn]
  clear h hb1 ho1 h1 hk2 ho2 hn hl
  go_enter Tryd.func18, Tryd.ntmps18
  go_wp2
  go_ret
  exact ⟨_, rfl, Nat.le_refl _, HO.out, HB.out⟩

set_option maxRecDepth 100000 in
set_option maxHeartbeats 4000000 in
theorem ccopy_any (h : Cv 55 w p b W H L) : Calls Tryd.prog 13 #[.pointer (some ⟨p, 0, none⟩)] w (Own 55 w W H L fun v => v) := by
  have HC := hid h
  have c0 := h.c0
  have c1 := h.c1
  have l0 := h.lt.1
  clear h
  go_enter Tryd.func13, Tryd.ntmps13
  go_wp2
  refine wp_region_held_drew (S := fun x => Cv 55 x p b W H L) (by kernel_rfl) ?hh (fun hHeld => ?_)
  case hh => exact (HC.out.on (Below.refl _ _).drew)
  refine wpAnyH_take (i := 0) (v := ?_) rfl (by kernel_rfl) (by kernel_rfl) (by kernel_rfl) (fun _ _ _ h => h) (Or.inl ⟨by kernel_rfl, ?hy0⟩) (by assumption) ?_
  case hy0 => (intro w hSw; (try dsimp only at hSw); have t0 := hSw.c0; have t1 := hSw.c1; go_simp; try with_reducible rfl)
  try simp only [Act.put, List.getElem_toArray, List.getElem_cons_zero, List.setIfInBounds_toArray, List.set_cons_zero, List.set_cons_succ]
  refine wpAnyH_take (i := 1) (v := ?_) rfl (by kernel_rfl) (by kernel_rfl) (by kernel_rfl) (fun _ _ _ h => h) (Or.inl ⟨by kernel_rfl, ?hy1⟩) (by assumption) ?_
  case hy1 => (intro w hSw; (try dsimp only at hSw); have t0 := hSw.c0; have t1 := hSw.c1; go_simp; try with_reducible rfl)
  try simp only [Act.put, List.getElem_toArray, List.getElem_cons_zero, List.getElem_cons_succ, List.setIfInBounds_toArray, List.set_cons_zero, List.set_cons_succ]
  refine wpAnyH_take (i := 2) (v := ?_) rfl (by kernel_rfl) (by kernel_rfl) (by kernel_rfl) (fun _ _ _ h => h) (Or.inl ⟨by kernel_rfl, ?hy2⟩) (by assumption) ?_
  case hy2 => (intro w hSw; (try dsimp only at hSw); have t0 := hSw.c0; have t1 := hSw.c1; go_simp; try with_reducible rfl)
  try simp only [Act.put, List.getElem_toArray, List.getElem_cons_zero, List.getElem_cons_succ, List.setIfInBounds_toArray, List.set_cons_zero, List.set_cons_succ]
  refine wpAnyH_take (i := 3) (v := ?_) rfl (by kernel_rfl) (by kernel_rfl) (by kernel_rfl) (fun _ _ _ h => h) (Or.inl ⟨by kernel_rfl, ?hy3⟩) (by assumption) ?_
  case hy3 => (intro w hSw; (try dsimp only at hSw); have t0 := hSw.c0; have t1 := hSw.c1; go_simp; try with_reducible rfl)
  try simp only [Act.put, List.getElem_toArray, List.getElem_cons_zero, List.getElem_cons_succ, List.setIfInBounds_toArray, List.set_cons_zero, List.set_cons_succ]
  refine wpAnyH_take (i := 4) (v := ?_) rfl (by kernel_rfl) (by kernel_rfl) (by kernel_rfl) (fun _ _ _ h => h) (Or.inl ⟨by kernel_rfl, ?hy4⟩) (by assumption) ?_
  case hy4 => (intro w hSw; (try dsimp only at hSw); have t0 := hSw.c0; have t1 := hSw.c1; go_simp; try with_reducible rfl)
  try simp only [Act.put, List.getElem_toArray, List.getElem_cons_zero, List.getElem_cons_succ, List.setIfInBounds_toArray, List.set_cons_zero, List.set_cons_succ]
  refine wpAnyH_take (i := 5) (v := ?_) rfl (by kernel_rfl) (by kernel_rfl) (by kernel_rfl) (fun _ _ _ h => h) (Or.inl ⟨by kernel_rfl, ?hy5⟩) (by assumption) ?_
  case hy5 => (intro w hSw; (try dsimp only at hSw); have t0 := hSw.c0; have t1 := hSw.c1; go_simp; try with_reducible rfl)
  try simp only [Act.put, List.getElem_toArray, List.getElem_cons_zero, List.getElem_cons_succ, List.setIfInBounds_toArray, List.set_cons_zero, List.set_cons_succ]
  refine wpAnyH_take (i := 6) (v := ?_) rfl (by kernel_rfl) (by kernel_rfl) (by kernel_rfl) (fun _ _ _ h => h) (Or.inl ⟨by kernel_rfl, ?hy6⟩) (by assumption) ?_
  case hy6 => (intro w hSw; (try dsimp only at hSw); have t0 := hSw.c0; have t1 := hSw.c1; go_simp; try with_reducible rfl)
  try simp only [Act.put, List.getElem_toArray, List.getElem_cons_zero, List.getElem_cons_succ, List.setIfInBounds_toArray, List.set_cons_zero, List.set_cons_succ]
  refine wpAnyH_take (i := 7) (v := ?_) rfl (by kernel_rfl) (by kernel_rfl) (by kernel_rfl) (fun _ _ _ h => h) (Or.inl ⟨by kernel_rfl, ?hy7⟩) (by assumption) ?_
  case hy7 => (intro w hSw; (try dsimp only at hSw); have t0 := hSw.c0; have t1 := hSw.c1; go_simp; try with_reducible rfl)
  try simp only [Act.put, List.getElem_toArray, List.getElem_cons_zero, List.getElem_cons_succ, List.setIfInBounds_toArray, List.set_cons_zero, List.set_cons_succ]
  refine wpAnyH_take (i := 8) (v := ?_) rfl (by kernel_rfl) (by kernel_rfl) (by kernel_rfl) (fun _ _ _ h => h) (Or.inl ⟨by kernel_rfl, ?hy8⟩) (by assumption) ?_
  case hy8 => (intro w hSw; (try dsimp only at hSw); have t0 := hSw.c0; have t1 := hSw.c1; go_simp; try with_reducible rfl)
  try simp only [Act.put, List.getElem_toArray, List.getElem_cons_zero, List.getElem_cons_succ, List.setIfInBounds_toArray, List.set_cons_zero, List.set_cons_succ]
  refine wpAnyH_ready (rs := [9]) (by kernel_rfl) (by simp) ?_
  refine AllReadyH.cons rfl (fun K hK => ?_) AllReadyH.nil
  go_simp
  go_wp2_with fail
  refine (pixels_any hHeld).mono ?_
  rintro e u2 ⟨g, rfl, hg, hO, hb⟩
  refine hK.out _ _ (hHeld.on hb) (fun _ => ?_)
  have hHeld2 := hHeld.on hb
  have HO := hid hO
  have HB := hid (Below.on (Below.refl _ _).drew hb)
  clear hK K hHeld hO hb
  have hHeld := hHeld2
  clear hHeld2
  refine wpAnyH_take (i := 10) (v := ?_) rfl (by kernel_rfl) (by kernel_rfl) (by kernel_rfl) (fun _ _ _ h => h) (Or.inl ⟨by kernel_rfl, ?hy10⟩) (by assumption) ?_
  case hy10 => (intro w hSw; (try dsimp only at hSw); have t0 := hSw.c0; have t1 := hSw.c1; go_simp; try with_reducible rfl)
  try simp only [Act.put, List.getElem_toArray, List.getElem_cons_zero, List.getElem_cons_succ, List.setIfInBounds_toArray, List.set_cons_zero, List.set_cons_succ]
  refine wpAnyH_ready (rs := [11]) (by kernel_rfl) (by simp) ?_
  refine AllReadyH.cons rfl (fun K hK => ?_) AllReadyH.nil
  go_simp
  refine hK.out _ _ (hHeld.on ((Below.refl _ _).alloc (Nat.le_refl _) _)) (fun _ => ?_)
  clear hK K
  refine wpAnyH_take (i := 12) (v := ?_) rfl (by kernel_rfl) (by kernel_rfl) (by kernel_rfl) (fun _ _ _ h => h) (Or.inl ⟨by kernel_rfl, ?hy12⟩) (by assumption) ?_
  case hy12 => (intro w hSw; (try dsimp only at hSw); have t0 := hSw.c0; have t1 := hSw.c1; go_simp; try with_reducible rfl)
  try simp only [Act.put, List.getElem_toArray, List.getElem_cons_zero, List.getElem_cons_succ, List.setIfInBounds_toArray, List.set_cons_zero, List.set_cons_succ]
  refine wpAnyH_done (by kernel_rfl) ?_ _
  go_wp2
  go_ret
  exact ⟨_, _, rfl, HB.out.alloc HB.out.size _, cv_new 55 HO.out HC.out.col HC.out.hW HC.out.hH, HB.out.size, hg⟩
end Go.Proofs.YtldnggokkkhihaaDoor
