/- Lemmas that the proof leans on. -/
import Derived.Test.YtpbgbpcdohdecaaGreatDoorB18
namespace Go.Proofs.YtpbgbpcdohdecaaGreatDoor
open Go Go.RowKit
set_option maxRecDepth 100000
set_option maxHeartbeats 4000000
section
def e32 (z : Int) : Value := .int .u32 z
structure Cv (ty : Nat) (w : World) (p b W H : Nat) (L : List Int) : Prop where
 ne : p ≠ b
 var : w.heap[p]? = some (.cells #[.int .i64 (W : Nat), .int .i64 (H : Nat), .slice (some ⟨b, 0, none⟩) (W * H) (W * H)] ty (0, 0))
 row : w.ownsRow 0 55 1 (.slice (some ⟨b, 0, none⟩) (W * H) (W * H)) (W * H) (L.map e32)
 col : ∀ z ∈ L, Col z
 hW : 1 ≤ W ∧ W ≤ 48
 hH : 1 ≤ H ∧ H ≤ 48
variable {ty : Nat} {w w' : World} {p b W H : Nat} {L : List Int}
theorem Cv.len (h : Cv ty w p b W H L) : L.length = W * H := by
 have := h.row.1
 rw [List.length_map, Nat.mul_one] at this
 exact this
theorem Cv.small (h : Cv ty w p b W H L) : W * H ≤ 2304 := Nat.mul_le_mul h.hW.2 h.hH.2
theorem Cv.lt (h : Cv ty w p b W H L) : p < w.heap.size ∧ b < w.heap.size :=
 ⟨(Array.getElem?_eq_some_iff.1 h.var).1, (h.row.lt b rfl).2⟩
theorem Cv.kept {X : List Nat} (h : Cv ty w p b W H L) (hk : Kp X w w') (hp : p ∉ X) (hb : b ∉ X) : Cv ty w' p b W H L :=
 ⟨h.ne, hk.var h.var hp, hk.row h.row (fun k e => by
  simp only [Value.ownBlock, Option.some.injEq] at e
  rw [← e]
  exact hb), h.col, h.hW, h.hH⟩
theorem Cv.on (h : Cv ty w p b W H L) (hb : Below w.heap.size w w') : Cv ty w' p b W H L := h.kept (kp_of_below hb []) (by simp) (by simp)
theorem Cv.c0 (h : Cv ty w p b W H L) : w.cell? ⟨p, 0, none⟩ = some (.int .i64 (W : Nat)) := by rw [Lib.cell_of_heap h.var]; rfl
theorem Cv.c1 (h : Cv ty w p b W H L) : w.cell? ⟨p, 1, none⟩ = some (.int .i64 (H : Nat)) := by rw [Lib.cell_of_heap h.var]; rfl
theorem Cv.c2 (h : Cv ty w p b W H L) : w.cell? ⟨p, 2, none⟩ = some (.slice (some ⟨b, 0, none⟩) (W * H) (W * H)) := by rw [Lib.cell_of_heap h.var]; rfl
theorem Cv.cell (h : Cv ty w p b W H L) {i : Nat} {z : Int} (hz : L[i]? = some z) : w.cell? ⟨b, i, none⟩ = some (.int .u32 z) := by
 have hi := (List.getElem?_eq_some_iff.1 hz).1
 rw [h.row.cellAt i (by rw [Nat.mul_one, ← h.len]; exact hi), List.getElem?_map, hz]
 rfl
theorem Cv.fz (h : Cv ty w p b W H L) (i : Nat) : w.frozen? ⟨b, i, none⟩ = false := h.row.frozenAt i
theorem Cv.set (h : Cv ty w p b W H L) (i : Nat) {z : Int} (hz : Col z) : Cv ty (w.setCell ⟨b, i, none⟩ (.int .u32 z)) p b W H (L.set i z) := by
 have hr := (h.row.stored i (.int .u32 z)).1
 rw [show Value.int .u32 z = e32 z from rfl, ← List.map_set] at hr
 exact ⟨h.ne, by rw [heap_setCell_other _ _ _ _ h.ne]; exact h.var, hr, fun y hy => by
  rcases List.mem_or_eq_of_mem_set hy with h' | h'
  ·exact h.col y h'
  ·rw [h']; exact hz, h.hW, h.hH⟩
theorem Cv.at_ (h : Cv ty w p b W H L) {x y : Nat} (hx : x < W) (hy : y < H) : ∃ z, L[y * W + x]? = some z ∧ Col z := by
 have hl : y * W + x < L.length := by rw [h.len]; exact place_lt hx hy
 exact ⟨_, List.getElem?_eq_getElem hl, h.col _ (List.getElem_mem hl)⟩
theorem info32 : (Tryz.prog.info? 55).map (fun i => (i.zero, i.size, i.bytes)) = some (some (.int .u32 0), 1, 4) := by kernel_rfl
theorem info32p : ∃ i, Tryz.prog.info? 55 = some i ∧ i.zero = some (.int .u32 0) ∧ i.size = 1 ∧ i.bytes = 4 := by
 obtain ⟨i, h1, h2⟩ := Option.map_eq_some_iff.1 info32
 simp only [Prod.mk.injEq] at h2
 exact ⟨i, h1, h2.1, h2.2.1, h2.2.2⟩
theorem make32 (w : World) (n : Nat) (hn : n ≤ 2304) : ∃ w1, (Instr.makeSlice 89 (.int .i64 (n : Int)) (.int .i64 (n : Int))).run Tryz.prog w = .ok (.slice (some ⟨w.heap.size, 0, none⟩) n n) w1 ∧ Below w.heap.size w w1 ∧ w1.ownsRow w.heap.size 55 1 (.slice (some ⟨w.heap.size, 0, none⟩) n n) n ((List.replicate n 0).map e32) := by
 obtain ⟨i0, hi, hz0, hz1, hz2⟩ := info32p
 obtain ⟨w1, hmk, ho1, hg1⟩ := run_make_full (P := Tryz.prog) w w.heap.size 89 55 i0 (.int .u32 0) 1 Tryz.underlying89 hi hz0 hz1 .i64 .i64 n (by rw [hz2]; omega) (by simp only [maxLen]; omega) (Nat.le_refl _)
 refine ⟨w1, hmk, (Below.refl _ _).grown hg1 (Nat.le_refl _) (fun k hk => by cases hk), ?_⟩
 have e : (madeCells (Value.int .u32 0).cells (n * 1)).toList = (List.replicate n 0).map e32 := by
  rw [Nat.mul_one, List.map_replicate]
  exact toList_madeCells_one _ n
 rwa [e] at ho1
theorem cv_new {base : Nat} {u : World} {g : Nat} (ty : Nat) (hr : u.ownsRow base 55 1 (.slice (some ⟨g, 0, none⟩) (W * H) (W * H)) (W * H) (L.map e32)) (hc : ∀ z ∈ L, Col z) (hW : 1 ≤ W ∧ W ≤ 48) (hH : 1 ≤ H ∧ H ≤ 48) :
  Cv ty (u.alloc (.cells #[.int .i64 (W : Nat), .int .i64 (H : Nat), .slice (some ⟨g, 0, none⟩) (W * H) (W * H)] ty)) u.heap.size g W H L := by
 have hg := (hr.lt g rfl).2
 refine ⟨by omega, heap_alloc_new u _, ?_, hc, hW, hH⟩
 exact ownsRow_below (ownsRow_low hr (Nat.zero_le _)) ((Below.refl _ _).alloc (Nat.le_refl _) _)
theorem between_any (l n h : Int) (w : World) : Calls Tryz.prog 34 #[.int .i64 l, .int .i64 n, .int .i64 h] w fun e w' => e = .returned (.bool (decide (l ≤ n) && decide (n ≤ h))) ∧ w' = w := by
 go_enter Tryz.func34, Tryz.ntmps34
 cases h1 : decide (l ≤ n) <;> cases h2 : decide (n ≤ h)
 all_goals
  go_wp2
  go_ret
  exact ⟨rfl, rfl⟩
def Own_CanB (ty : Nat) (w : World) (W H : Nat) (L : List Int) (f : Value → Value) (e : Ending) (w' : World) : Prop :=
 ∃ p b, e = .returned (f (.pointer (some ⟨p, 0, none⟩))) ∧ Below w.heap.size w w' ∧ Cv ty w' p b W H L ∧ w.heap.size ≤ p ∧ w.heap.size ≤ b
theorem cnew_any (w : World) (W H : Nat) (hW : 1 ≤ W ∧ W ≤ 48) (hH : 1 ≤ H ∧ H ≤ 48) :
  Calls Tryz.prog 18 #[.int .i64 (W : Nat), .int .i64 (H : Nat)] w (Own_CanB 91 w W H (List.replicate (W * H) 0) fun v => .tuple #[v, .nilIface]) := by
 obtain ⟨n, hn⟩ : ∃ n, W * H = n := ⟨_, rfl⟩
 have hs : n ≤ 2304 := by rw [← hn]; exact Nat.mul_le_mul hW.2 hH.2
 have m1 : (W : Int) * (H : Int) = (n : Int) := by rw [← hn, Int.natCast_mul]
 have CW := hid (between_any 1 W 48 w)
 have CH := hid (between_any 1 H 48 w)
 rw [show (decide ((1 : Int) ≤ W) && decide ((W : Int) ≤ 48)) = true by simp; omega] at CW
 rw [show (decide ((1 : Int) ≤ H) && decide ((H : Int) ≤ 48)) = true by simp; omega] at CH
 obtain ⟨w1, hmk, hb1, ho1⟩ := make32 w n hs
 have hs1 := hb1.size
 have HN := hid hn
 have HB := hid hb1
 have HO := hid ho1
 clear hn hb1 ho1
 go_enter Tryz.func18, Tryz.ntmps18
 go_wp2_with fail
 refine CW.out.mono ?_
 rintro e w2 ⟨rfl, rfl⟩
 go_wp2_with fail
 refine CH.out.mono ?_
 rintro e w2 ⟨rfl, rfl⟩
 go_wp2
 go_ret2
 subst HN
 exact ⟨_, _, rfl, HB.out.alloc hs1 _, cv_new 91 HO.out (fun z hz => by rw [List.eq_of_mem_replicate hz, Col]; decide) hW hH, hs1, Nat.le_refl _⟩
theorem csize_any (h : Cv 91 w p b W H L) : Calls Tryz.prog 35 #[.pointer (some ⟨p, 0, none⟩)] w fun e w' => e = .returned (.tuple #[.int .i64 (W : Nat), .int .i64 (H : Nat)]) ∧ Below w.heap.size w w' := by
 have c0 := h.c0
 have c1 := h.c1
 have l0 := h.lt.1
 clear h
 go_enter Tryz.func35, Tryz.ntmps35
 go_wp2
 go_quiet (fail)
 go_wp2
 go_ret2
 exact ⟨rfl, below_drewN_LibK (Below.refl _ _) _⟩
def ara (W H : Nat) : Rc := ⟨0, 0, W, H⟩
theorem carea_any (h : Cv 91 w p b W H L) : Calls Tryz.prog 63 #[.pointer (some ⟨p, 0, none⟩)] w fun e w' => e = .returned (.agg #[.int .i64 0, .int .i64 0, .int .i64 (W : Nat), .int .i64 (H : Nat)]) ∧ Below w.heap.size w w' := by
 have l0 := h.lt.1
 have c0 := h.c0
 have c1 := h.c1
 have HB := hid (bx_new w rz)
 obtain ⟨d0, d1, d2, d3⟩ := HB.out.all
 have fz := HB.out.fz
 clear h HB
 go_enter Tryz.func63, Tryz.ntmps63
 go_wp2
 refine wp_region_held_drew (S := fun x => x.cell? ⟨p, 0, none⟩ = some (.int .i64 (W : Nat)) ∧ x.cell? ⟨p, 1, none⟩ = some (.int .i64 (H : Nat))) (by kernel_rfl) ?hh (fun hHeld => ?_)
 case hh => exact (⟨by go_simp, by go_simp⟩)
 refine wpAnyH_take (i := 0) (v := ?_) rfl (by kernel_rfl) (by kernel_rfl) (by kernel_rfl) (fun _ _ _ h => h) (Or.inl ⟨by kernel_rfl, ?hy0⟩) (by assumption) ?_
 case hy0 => (intro w hSw; (try dsimp only at hSw); obtain ⟨t0, t1⟩ := hSw; go_simp; try with_reducible rfl)
 try simp only [Act.put, List.getElem_toArray, List.getElem_cons_zero, List.setIfInBounds_toArray, List.set_cons_zero, List.set_cons_succ]
 refine wpAnyH_take (i := 1) (v := ?_) rfl (by kernel_rfl) (by kernel_rfl) (by kernel_rfl) (fun _ _ _ h => h) (Or.inl ⟨by kernel_rfl, ?hy1⟩) (by assumption) ?_
 case hy1 => (intro w hSw; (try dsimp only at hSw); obtain ⟨t0, t1⟩ := hSw; go_simp; try with_reducible rfl)
 try simp only [Act.put, List.getElem_toArray, List.getElem_cons_zero, List.getElem_cons_succ, List.setIfInBounds_toArray, List.set_cons_zero, List.set_cons_succ]
 refine wpAnyH_take (i := 2) (v := ?_) rfl (by kernel_rfl) (by kernel_rfl) (by kernel_rfl) (fun _ _ _ h => h) (Or.inl ⟨by kernel_rfl, ?hy2⟩) (by assumption) ?_
 case hy2 => (intro w hSw; (try dsimp only at hSw); obtain ⟨t0, t1⟩ := hSw; go_simp; try with_reducible rfl)
 try simp only [Act.put, List.getElem_toArray, List.getElem_cons_zero, List.getElem_cons_succ, List.setIfInBounds_toArray, List.set_cons_zero, List.set_cons_succ]
 refine wpAnyH_take (i := 3) (v := ?_) rfl (by kernel_rfl) (by kernel_rfl) (by kernel_rfl) (fun _ _ _ h => h) (Or.inl ⟨by kernel_rfl, ?hy3⟩) (by assumption) ?_
 case hy3 => (intro w hSw; (try dsimp only at hSw); obtain ⟨t0, t1⟩ := hSw; go_simp; try with_reducible rfl)
 try simp only [Act.put, List.getElem_toArray, List.getElem_cons_zero, List.getElem_cons_succ, List.setIfInBounds_toArray, List.set_cons_zero, List.set_cons_succ]
 refine wpAnyH_take (i := 4) (v := ?_) rfl (by kernel_rfl) (by kernel_rfl) (by kernel_rfl) (fun _ _ _ h => h) (Or.inl ⟨by kernel_rfl, ?hy4⟩) (by assumption) ?_
 case hy4 => (intro w hSw; (try dsimp only at hSw); obtain ⟨t0, t1⟩ := hSw; go_simp; try with_reducible rfl)
 try simp only [Act.put, List.getElem_toArray, List.getElem_cons_zero, List.getElem_cons_succ, List.setIfInBounds_toArray, List.set_cons_zero, List.set_cons_succ]
 refine wpAnyH_take (i := 5) (v := ?_) rfl (by kernel_rfl) (by kernel_rfl) (by kernel_rfl) (fun _ _ _ h => h) (Or.inl ⟨by kernel_rfl, ?hy5⟩) (by assumption) ?_
 case hy5 => (intro w hSw; (try dsimp only at hSw); obtain ⟨t0, t1⟩ := hSw; go_simp; try with_reducible rfl)
 try simp only [Act.put, List.getElem_toArray, List.getElem_cons_zero, List.getElem_cons_succ, List.setIfInBounds_toArray, List.set_cons_zero, List.set_cons_succ]
 refine wpAnyH_take (i := 6) (v := ?_) rfl (by kernel_rfl) (by kernel_rfl) (by kernel_rfl) (fun _ _ _ h => h) (Or.inl ⟨by kernel_rfl, ?hy6⟩) (by assumption) ?_
 case hy6 => (intro w hSw; (try dsimp only at hSw); obtain ⟨t0, t1⟩ := hSw; go_simp; try with_reducible rfl)
 try simp only [Act.put, List.getElem_toArray, List.getElem_cons_zero, List.getElem_cons_succ, List.setIfInBounds_toArray, List.set_cons_zero, List.set_cons_succ]
 refine wpAnyH_take (i := 7) (v := ?_) rfl (by kernel_rfl) (by kernel_rfl) (by kernel_rfl) (fun _ _ _ h => h) (Or.inl ⟨by kernel_rfl, ?hy7⟩) (by assumption) ?_
 case hy7 => (intro w hSw; (try dsimp only at hSw); obtain ⟨t0, t1⟩ := hSw; go_simp; try with_reducible rfl)
 try simp only [Act.put, List.getElem_toArray, List.getElem_cons_zero, List.getElem_cons_succ, List.setIfInBounds_toArray, List.set_cons_zero, List.set_cons_succ]
 refine wpAnyH_take (i := 8) (v := ?_) rfl (by kernel_rfl) (by kernel_rfl) (by kernel_rfl) (fun _ _ _ h => h) (Or.inl ⟨by kernel_rfl, ?hy8⟩) (by assumption) ?_
 case hy8 => (intro w hSw; (try dsimp only at hSw); obtain ⟨t0, t1⟩ := hSw; go_simp; try with_reducible rfl)
 try simp only [Act.put, List.getElem_toArray, List.getElem_cons_zero, List.getElem_cons_succ, List.setIfInBounds_toArray, List.set_cons_zero, List.set_cons_succ]
 refine wpAnyH_ready (rs := [9]) (by kernel_rfl) (by simp) ?_
 refine AllReadyH.cons rfl (fun K hK => ?_) AllReadyH.nil
 go_simp
 refine hK.out _ _ ⟨by go_simp, by go_simp⟩ (fun _ => ?_)
 clear hK K hHeld
 refine wpAnyH_done (by kernel_rfl) ?_ _
 go_wp2
 refine bodyPost_ret (results_cell_row rfl _ _ w.heap.size _ _ _ _ rfl (bx_new w (ara W H)).drew.obj Tryz.underlying97 rfl infoR) rfl ?_
 exact ⟨rfl, (below_new w (ob (ara W H))).drew⟩
theorem row_any (h : Cv 91 w p b W H L) (y : Nat) (hy : y < H) : Calls Tryz.prog 110 #[.pointer (some ⟨p, 0, none⟩), .int .i64 (y : Nat)] w fun e w' => e = .returned (.slice (some ⟨b, y * W, none⟩) W W) ∧ ∃ q, w' = w.drewN q := by
 obtain ⟨n, hn⟩ : ∃ n, W * H = n := ⟨_, rfl⟩
 obtain ⟨f, hf⟩ : ∃ f, y * W = f := ⟨_, rfl⟩
 have hfn : f + W ≤ n := by
  have : (y + 1) * W ≤ H * W := Nat.mul_le_mul_right W hy
  rw [Nat.add_mul, Nat.one_mul, hf, Nat.mul_comm H W, hn] at this
  exact this
 have m1 : (y : Int) * (W : Int) = (f : Int) := by rw [← hf, Int.natCast_mul]
 have m2 : ((y : Int) + 1) * (W : Int) = ((f + W : Nat) : Int) := by rw [Int.add_mul, Int.one_mul, m1]; omega
 have hs := h.small
 rw [hn] at hs
 have c0 := h.c0
 have c2 := h.c2
 have l0 := h.lt.1
 have hW := h.hW
 have hH := h.hH
 rw [hn] at c2
 rw [hf]
 clear h hn hf
 go_enter Tryz.func110, Tryz.ntmps110
 go_wp2
 go_quiet (fail)
 go_wp2
 go_ret
 have e : f + W - f = W := by omega
 exact ⟨by simp only [e]; rfl, _, rfl⟩
theorem has_ara (hW : 1 ≤ W) (hH : 1 ≤ H) (x y : Int) : has (ara W H) x y = (decide (0 ≤ x) && decide (x < W) && (decide (0 ≤ y) && decide (y < H))) := by
 have e : emp (ara W H) = false := by
  rw [emp, Bool.or_eq_false_iff, decide_eq_false_iff_not, decide_eq_false_iff_not]
  simp only [ara]
  omega
 rw [has, e]
 simp only [wth, ara, Int.sub_zero, Bool.not_false, Bool.true_and]
 rfl
theorem ara_ok (h : Cv ty w p b W H L) : (ara W H).Ok := by
 have := h.hW
 have := h.hH
 exact ⟨by simp [ara], by simp [ara], by simp [ara]; omega, by simp [ara]; omega⟩
end
section
def inC (l : List Rc) (x y : Int) : Bool := l.any fun c => has (bnd c) x y
theorem inC_append (l m : List Rc) (x y : Int) : inC (l ++ m) x y = (inC l x y || inC m x y) := by simp [inC]
theorem may_bnd (c : Rc) : may (bnd c) = true := by
 rcases bnd_cases c with h | h
 ·simp [may, h]
 ·exact may_of (.inr h)
theorem may_cut {a b : Rc} (ha : may a = true) (hb : may b = true) : may (cut a b) = true := by
 cases he : emp (cut a b)
 ·rcases may_cases ha with h1 | ka
  ·rw [cut_emp1 h1] at he
   cases he
  ·rcases may_cases hb with h2 | kb
   ·rw [cut_emp2 a h2] at he
    cases he
   ·exact may_of (.inr (cut_ck ka kb he))
 ·simp [may, he]
theorem pt_ofl {q : Rc} (hq : may q = true) (x y : Int) : pt (ofl q) x y = has q x y := by
 unfold ofl
 split
 ·rename_i h
  rw [pt_nil, ← has_bnd hq, has_emp h]
 ·rw [pt_cons, pt_nil, Bool.or_false, has_bnd hq]
theorem gd_ofl (q : Rc) : Gd_RgnV 2 (ofl q) := ⟨ofl_reg q, _, _, ofl_grid q, Nat.le_refl _, Nat.le_refl _⟩
structure Prt (r : Rc) (l m : List Rc) : Prop where
 gd : Gd_RgnV (2 * l.length) m
 pt : ∀ x y, pt m x y = (has r x y && inC l x y)
theorem prt_nil (r : Rc) : Prt r [] [] := ⟨⟨⟨fun _ h => (by cases h), List.Pairwise.nil, fun _ h => (by cases h)⟩, [], [], ⟨fun _ h => (by cases h)⟩, Nat.le_refl _, Nat.le_refl _⟩, fun x y => by simp [inC, Go.Proofs.YtpbgbpcdohdecaaGreatDoor.pt]⟩
theorem prt_one {r : Rc} (hr : may r = true) (c : Rc) : Prt r [c] (ofl (cut (bnd c) r)) :=
 ⟨gd_ofl _, fun x y => by
  rw [pt_ofl (may_cut (may_bnd c) hr), has_cut (may_bnd c) hr, Bool.and_comm]
  simp [inC]⟩
theorem prt_two {r : Rc} {l l' m m' : List Rc} (h : Prt r l m) (h' : Prt r l' m') : Prt r (l ++ l') (mk or m m') :=
 ⟨by rw [List.length_append, Nat.mul_add]; exact gd_both h.gd h'.gd rfl, fun x y => by
  rw [mkp rfl h.gd.reg h'.gd.reg, h.pt, h'.pt, inC_append, Bool.and_or_distrib_left]⟩
theorem bnd_rz {c : Rc} (h : emp (bnd c) = true) : bnd c = rz := by
 cases he : emp c
 ·rw [bnd_full he, oft] at h ⊢
  split at h
  ·rename_i h'
   rw [if_pos h']
  ·rename_i h'
   rw [emp, Bool.or_eq_true, decide_eq_true_eq, decide_eq_true_eq] at h
   dsimp only at h
   omega
 ·exact bnd_emp he
theorem gd_few {a b : Nat} (ha : a ≤ 20) (hb : b ≤ 20) : 2 * a * (2 * a) + 2 * b * (2 * b) ≤ 4096 := by
 have h1 : 2 * a * (2 * a) ≤ 40 * 40 := Nat.mul_le_mul (by omega) (by omega)
 have h2 : 2 * b * (2 * b) ≤ 40 * 40 := Nat.mul_le_mul (by omega) (by omega)
 omega
theorem thn {P : Program} {f : Nat} {args : Array Value} {x W : World} {v : Ending} (h : Calls P f args x fun e w' => e = v ∧ Below x.heap.size x w') (hb : Below W.heap.size W x) : Calls P f args x fun e w' => e = v ∧ Below W.heap.size W w' :=
 h.mono fun _ _ q => ⟨q.1, Below.on hb q.2⟩
theorem parts_any (r : Rc) (hr : may r = true) (ok : r.Ok) : ∀ (k : Nat) (a : Option Addr) (n c : Nat) (l : List Rc) (w : World), n ≤ k → RdC w a n c l → n ≤ 40 →
  Calls Tryz.prog 108 #[.agg #[.int .i64 r.x, .int .i64 r.y, .int .i64 r.w, .int .i64 r.h], .slice a n c] w fun e w' => ∃ m, Prt r l m ∧ Ret w m e w' := by
 intro k
 induction k with
 | zero =>
  intro a n c l w hk h hn
  obtain rfl : n = 0 := by omega
  obtain rfl : l = [] := List.eq_nil_of_length_eq_zero h.len
  have HB := hid (below_new w (ob r))
  rw [ob] at HB
  clear h
  go_enter Tryz.func108, Tryz.ntmps108
  go_wp2
  go_ret
  exact ⟨[], prt_nil r, none, 0, rfl, RdC.nil _, HB.out⟩
 | succ k ih =>
  intro a n c l w hk h hn
  have HB := hid (below_new w (ob r))
  have HX := hid (bx_new w r)
  rw [ob] at HB
  have H := hid (h.on HB.out)
  have hsm := h.small
  have hle := h.le
  have HL := hid h.len
  have IH := hid ih
  clear h ih
  by_cases h0 : n = 0
  ·subst h0
   obtain rfl : l = [] := List.eq_nil_of_length_eq_zero HL.out
   go_enter Tryz.func108, Tryz.ntmps108
   go_wp2
   go_ret
   exact ⟨[], prt_nil r, none, 0, rfl, RdC.nil _, HB.out⟩
  ·have e0 : ((n : Int) == 0) = false := by
    rw [beq_eq_false_iff_ne]
    omega
   obtain ⟨b, off, q, rfl, hbl, hq, okq, he⟩ := H.out.el (j := 0) (by omega)
   by_cases h1 : n = 1
   ·subst h1
    obtain rfl : l = [q] := by
     have := HL.out
     match l, this, hq with
     | [z], _, hq => simp only [List.getElem?_cons_zero, Option.some.injEq] at hq; rw [hq]
    rw [Nat.zero_mul, Nat.add_zero] at he
    have HE := hid he
    have CB := hid (fun u => bound_any q okq u)
    have okb : (bnd q).Ok := by
     rcases bnd_cases q with h' | h'
     ·rw [bnd_rz h']
      exact rz_ok
     ·exact h'.ok
    have CC := hid (fun u => cut_any_RectC (bnd q) r okb ok u)
    have okc : (cut (bnd q) r).Ok := cut_ok (may_bnd q) hr
    have CO := hid (fun u => of_any_RgnR (cut (bnd q) r) okc u)
    have HP := hid (prt_one hr q)
    clear he
    go_enter Tryz.func108, Tryz.ntmps108
    go_wp2
    obtain ⟨U, HU⟩ : ∃ U, Hid (U = w.alloc (.cells #[.int .i64 r.x, .int .i64 r.y, .int .i64 r.w, .int .i64 r.h] 97)) := ⟨_, rfl⟩
    rw [← HU.out] at HX HE HB H
    rw [← HU.out]
    refine wp_region_held_drew (S := fun x => Below U.heap.size U x) (by kernel_rfl) ?hh (fun hHeld => ?_)
    case hh => exact ((Below.refl _ _).drew)
    refine wpAnyH_take (i := 0) (v := ?_) rfl (by kernel_rfl) (by kernel_rfl) (by kernel_rfl) (fun _ _ _ h => h) (Or.inl ⟨by kernel_rfl, ?hy0⟩) (by assumption) ?_
    case hy0 => (intro w hSw; (try dsimp only at hSw); obtain ⟨t0, t1, t2, t3⟩ := (HX.out.on hSw).all; obtain ⟨_, s0, s1, s2, s3⟩ := HE.out.on hSw; go_simp; try with_reducible rfl)
    try simp only [Act.put, List.getElem_toArray, List.getElem_cons_zero, List.setIfInBounds_toArray, List.set_cons_zero, List.set_cons_succ]
    refine wpAnyH_take (i := 1) (v := ?_) rfl (by kernel_rfl) (by kernel_rfl) (by kernel_rfl) (fun _ _ _ h => h) (Or.inl ⟨by kernel_rfl, ?hy1⟩) (by assumption) ?_
    case hy1 => (intro w hSw; (try dsimp only at hSw); obtain ⟨t0, t1, t2, t3⟩ := (HX.out.on hSw).all; obtain ⟨_, s0, s1, s2, s3⟩ := HE.out.on hSw; go_simp; try with_reducible rfl)
    try simp only [Act.put, List.getElem_toArray, List.getElem_cons_zero, List.getElem_cons_succ, List.setIfInBounds_toArray, List.set_cons_zero, List.set_cons_succ]
    refine wpAnyH_take (i := 2) (v := ?_) rfl (by kernel_rfl) (by kernel_rfl) (by kernel_rfl) (fun _ _ _ h => h) (Or.inl ⟨by kernel_rfl, ?hy2⟩) (by assumption) ?_
    case hy2 => (intro w hSw; (try dsimp only at hSw); obtain ⟨t0, t1, t2, t3⟩ := (HX.out.on hSw).all; obtain ⟨_, s0, s1, s2, s3⟩ := HE.out.on hSw; go_simp; try with_reducible rfl)
    try simp only [Act.put, List.getElem_toArray, List.getElem_cons_zero, List.getElem_cons_succ, List.setIfInBounds_toArray, List.set_cons_zero, List.set_cons_succ]
    refine wpAnyH_take (i := 4) (v := ?_) rfl (by kernel_rfl) (by kernel_rfl) (by kernel_rfl) (fun _ _ _ h => h) (Or.inl ⟨by kernel_rfl, ?hy4⟩) (by assumption) ?_
    case hy4 => (intro w hSw; (try dsimp only at hSw); obtain ⟨t0, t1, t2, t3⟩ := (HX.out.on hSw).all; obtain ⟨_, s0, s1, s2, s3⟩ := HE.out.on hSw; go_simp; try with_reducible rfl)
    try simp only [Act.put, List.getElem_toArray, List.getElem_cons_zero, List.getElem_cons_succ, List.setIfInBounds_toArray, List.set_cons_zero, List.set_cons_succ]
    refine wpAnyH_ready (rs := [3]) (by kernel_rfl) (by simp) ?_
    refine AllReadyH.cons rfl (fun K hK => ?_) AllReadyH.nil
    go_simp
    go_wp2_with fail
    refine (thn (CB.out _) hHeld).mono ?_
    rintro e u203 ⟨rfl, hS3⟩
    refine hK.out _ _ hS3 (fun _ => ?_)
    clear hK K hHeld
    have hHeld := hS3
    clear hS3
    refine wpAnyH_ready (rs := [5]) (by kernel_rfl) (by simp) ?_
    refine AllReadyH.cons rfl (fun K hK => ?_) AllReadyH.nil
    go_simp
    go_wp2_with fail
    refine (thn (CC.out _) hHeld).mono ?_
    rintro e u205 ⟨rfl, hS5⟩
    refine hK.out _ _ hS5 (fun _ => ?_)
    clear hK K hHeld
    have hHeld := hS5
    clear hS5
    refine wpAnyH_ready (rs := [6]) (by kernel_rfl) (by simp) ?_
    refine AllReadyH.cons rfl (fun K hK => ?_) AllReadyH.nil
    go_simp
    go_wp2_with fail
    refine (CO.out _).mono ?_
    rintro e u9 ⟨a9, c9, rfl, hR, hb⟩
    have hB9 := Below.on hHeld hb
    refine hK.out _ _ hB9 (fun _ => ?_)
    clear hK K hHeld hb
    refine wpAnyH_take (i := 7) (v := ?_) rfl (by kernel_rfl) (by kernel_rfl) (by kernel_rfl) (fun _ _ _ h => h) (Or.inl ⟨by kernel_rfl, ?hy7⟩) (by assumption) ?_
    case hy7 => (intro w hSw; (try dsimp only at hSw); obtain ⟨t0, t1, t2, t3⟩ := (HX.out.on hSw).all; obtain ⟨_, s0, s1, s2, s3⟩ := HE.out.on hSw; go_simp; try with_reducible rfl)
    try simp only [Act.put, List.getElem_toArray, List.getElem_cons_zero, List.getElem_cons_succ, List.setIfInBounds_toArray, List.set_cons_zero, List.set_cons_succ]
    refine wpAnyH_done (by kernel_rfl) ?_ _
    go_wp2
    go_ret
    exact ⟨_, HP.out, a9, c9, rfl, hR, Below.on HB.out hB9⟩
   ·have e1 : ((n : Int) == 1) = false := by
     rw [beq_eq_false_iff_ne]
     omega
    obtain ⟨m, hm⟩ : ∃ m, n / 2 = m := ⟨_, rfl⟩
    have hm1 : 1 ≤ m ∧ m < n ∧ m ≤ 20 ∧ n - m ≤ 20 := by omega
    have e2 : (n : Int).tdiv 2 = m := by
     rw [Int.tdiv_eq_ediv_of_nonneg (by omega)]
     omega
    have e3 : IntKind.i64.wrap (m : Int) = m := by
     rw [IntKind.wrap_i64]
     omega
    have e4 : m ≤ c := by omega
    have e5 : m ≤ n := by omega
    have e6 : ¬ c = m := by omega
    clear hm
    have H1 := hid (H.out.take (k := m) (by omega))
    have H2 := hid (H.out.drop (k := m) (by omega))
    have HLL : Hid (l.take m ++ l.drop m = l) := List.take_append_drop m l
    clear he hq
    go_enter Tryz.func108, Tryz.ntmps108
    go_wp2
    obtain ⟨U, HU⟩ : ∃ U, Hid (U = w.alloc (.cells #[.int .i64 r.x, .int .i64 r.y, .int .i64 r.w, .int .i64 r.h] 97)) := ⟨_, rfl⟩
    rw [← HU.out] at HX HB H H1 H2
    rw [← HU.out]
    refine wp_region_held_drew (S := fun x => Below U.heap.size U x) (by kernel_rfl) ?hh (fun hHeld => ?_)
    case hh => exact ((Below.refl _ _).drew)
    refine wpAnyH_take (i := 0) (v := ?_) rfl (by kernel_rfl) (by kernel_rfl) (by kernel_rfl) (fun _ _ _ h => h) (Or.inl ⟨by kernel_rfl, ?hy0⟩) (by assumption) ?_
    case hy0 => (intro w hSw; (try dsimp only at hSw); obtain ⟨t0, t1, t2, t3⟩ := (HX.out.on hSw).all; go_simp; try with_reducible rfl)
    try simp only [Act.put, List.getElem_toArray, List.getElem_cons_zero, List.setIfInBounds_toArray, List.set_cons_zero, List.set_cons_succ]
    refine wpAnyH_take (i := 1) (v := ?_) rfl (by kernel_rfl) (by kernel_rfl) (by kernel_rfl) (fun _ _ _ h => h) (Or.inl ⟨by kernel_rfl, ?hy1⟩) (by assumption) ?_
    case hy1 => (intro w hSw; (try dsimp only at hSw); obtain ⟨t0, t1, t2, t3⟩ := (HX.out.on hSw).all; go_simp; try with_reducible rfl)
    try simp only [Act.put, List.getElem_toArray, List.getElem_cons_zero, List.getElem_cons_succ, List.setIfInBounds_toArray, List.set_cons_zero, List.set_cons_succ]
    refine wpAnyH_take (i := 2) (v := ?_) rfl (by kernel_rfl) (by kernel_rfl) (by kernel_rfl) (fun _ _ _ h => h) (Or.inl ⟨by kernel_rfl, ?hy2⟩) (by assumption) ?_
    case hy2 => (intro w hSw; (try dsimp only at hSw); obtain ⟨t0, t1, t2, t3⟩ := (HX.out.on hSw).all; go_simp; try with_reducible rfl)
    try simp only [Act.put, List.getElem_toArray, List.getElem_cons_zero, List.getElem_cons_succ, List.setIfInBounds_toArray, List.set_cons_zero, List.set_cons_succ]
    refine wpAnyH_take (i := 3) (v := ?_) rfl (by kernel_rfl) (by kernel_rfl) (by kernel_rfl) (fun _ _ _ h => h) (Or.inl ⟨by kernel_rfl, ?hy3⟩) (by assumption) ?_
    case hy3 => (intro w hSw; (try dsimp only at hSw); obtain ⟨t0, t1, t2, t3⟩ := (HX.out.on hSw).all; go_simp; try with_reducible rfl)
    try simp only [Act.put, List.getElem_toArray, List.getElem_cons_zero, List.getElem_cons_succ, List.setIfInBounds_toArray, List.set_cons_zero, List.set_cons_succ]
    refine wpAnyH_take (i := 4) (v := ?_) rfl (by kernel_rfl) (by kernel_rfl) (by kernel_rfl) (fun _ _ _ h => h) (Or.inl ⟨by kernel_rfl, ?hy4⟩) (by assumption) ?_
    case hy4 => (intro w hSw; (try dsimp only at hSw); obtain ⟨t0, t1, t2, t3⟩ := (HX.out.on hSw).all; go_simp; try with_reducible rfl)
    try simp only [Act.put, List.getElem_toArray, List.getElem_cons_zero, List.getElem_cons_succ, List.setIfInBounds_toArray, List.set_cons_zero, List.set_cons_succ]
    refine wpAnyH_take (i := 6) (v := ?_) rfl (by kernel_rfl) (by kernel_rfl) (by kernel_rfl) (fun _ _ _ h => h) (Or.inl ⟨by kernel_rfl, ?hy6⟩) (by assumption) ?_
    case hy6 => (intro w hSw; (try dsimp only at hSw); obtain ⟨t0, t1, t2, t3⟩ := (HX.out.on hSw).all; go_simp; try with_reducible rfl)
    try simp only [Act.put, List.getElem_toArray, List.getElem_cons_zero, List.getElem_cons_succ, List.setIfInBounds_toArray, List.set_cons_zero, List.set_cons_succ]
    refine wpAnyH_take (i := 7) (v := ?_) rfl (by kernel_rfl) (by kernel_rfl) (by kernel_rfl) (fun _ _ _ h => h) (Or.inl ⟨by kernel_rfl, ?hy7⟩) (by assumption) ?_
    case hy7 => (intro w hSw; (try dsimp only at hSw); obtain ⟨t0, t1, t2, t3⟩ := (HX.out.on hSw).all; go_simp; try with_reducible rfl)
    try simp only [Act.put, List.getElem_toArray, List.getElem_cons_zero, List.getElem_cons_succ, List.setIfInBounds_toArray, List.set_cons_zero, List.set_cons_succ]
    refine wpAnyH_take (i := 8) (v := ?_) rfl (by kernel_rfl) (by kernel_rfl) (by kernel_rfl) (fun _ _ _ h => h) (Or.inl ⟨by kernel_rfl, ?hy8⟩) (by assumption) ?_
    case hy8 => (intro w hSw; (try dsimp only at hSw); obtain ⟨t0, t1, t2, t3⟩ := (HX.out.on hSw).all; go_simp; try with_reducible rfl)
    try simp only [Act.put, List.getElem_toArray, List.getElem_cons_zero, List.getElem_cons_succ, List.setIfInBounds_toArray, List.set_cons_zero, List.set_cons_succ]
    refine wpAnyH_take (i := 9) (v := ?_) rfl (by kernel_rfl) (by kernel_rfl) (by kernel_rfl) (fun _ _ _ h => h) (Or.inl ⟨by kernel_rfl, ?hy9⟩) (by assumption) ?_
    case hy9 => (intro w hSw; (try dsimp only at hSw); obtain ⟨t0, t1, t2, t3⟩ := (HX.out.on hSw).all; go_simp; try with_reducible rfl)
    try simp only [Act.put, List.getElem_toArray, List.getElem_cons_zero, List.getElem_cons_succ, List.setIfInBounds_toArray, List.set_cons_zero, List.set_cons_succ]
    refine wpAnyH_take (i := 10) (v := ?_) rfl (by kernel_rfl) (by kernel_rfl) (by kernel_rfl) (fun _ _ _ h => h) (Or.inl ⟨by kernel_rfl, ?hy10⟩) (by assumption) ?_
    case hy10 => (intro w hSw; (try dsimp only at hSw); obtain ⟨t0, t1, t2, t3⟩ := (HX.out.on hSw).all; go_simp; try with_reducible rfl)
    try simp only [Act.put, List.getElem_toArray, List.getElem_cons_zero, List.getElem_cons_succ, List.setIfInBounds_toArray, List.set_cons_zero, List.set_cons_succ]
    refine wpAnyH_ready (rs := [5]) (by kernel_rfl) (by simp) ?_
    refine AllReadyH.cons rfl (fun K hK => ?_) AllReadyH.nil
    go_simp
    go_wp2_with fail
    refine (IH.out _ m c (l.take m) _ (by omega) (H1.out.on hHeld) (by omega)).mono ?_
    rintro e u5 ⟨m5, hP5, a5, c5, rfl, hR5, hb⟩
    have hB5 := Below.on hHeld hb
    refine hK.out _ _ hB5 (fun _ => ?_)
    clear hK K hHeld hb
    have hHeld := hB5
    clear hB5
    refine wpAnyH_ready (rs := [11]) (by kernel_rfl) (by simp) ?_
    refine AllReadyH.cons rfl (fun K hK => ?_) AllReadyH.nil
    go_simp
    go_wp2_with fail
    refine (IH.out _ (n - m) (c - m) (l.drop m) _ (by omega) (H2.out.on hHeld) (by omega)).mono ?_
    rintro e u6 ⟨m6, hP6, a6, c6, rfl, hR6, hb⟩
    have hB6 := Below.on hHeld hb
    refine hK.out _ _ hB6 (fun _ => ?_)
    have hR5' := hR5.on hb
    clear hK K hHeld hb hR5
    have hHeld := hB6
    clear hB6
    refine wpAnyH_ready (rs := [12]) (by kernel_rfl) (by simp) ?_
    refine AllReadyH.cons rfl (fun K hK => ?_) AllReadyH.nil
    go_simp
    go_wp2_with fail
    refine (union_reg hR5' hR6 hP5.gd hP6.gd ?_).mono ?_
    ·exact gd_few (by rw [List.length_take, HL.out]; omega) (by rw [List.length_drop, HL.out]; omega)
    rintro e u7 ⟨a7, c7, rfl, hR7, hb⟩
    have hB7 := Below.on hHeld hb
    refine hK.out _ _ hB7 (fun _ => ?_)
    clear hK K hHeld hb
    refine wpAnyH_take (i := 13) (v := ?_) rfl (by kernel_rfl) (by kernel_rfl) (by kernel_rfl) (fun _ _ _ h => h) (Or.inl ⟨by kernel_rfl, ?hy13⟩) (by assumption) ?_
    case hy13 => (intro w hSw; (try dsimp only at hSw); obtain ⟨t0, t1, t2, t3⟩ := (HX.out.on hSw).all; go_simp; try with_reducible rfl)
    try simp only [Act.put, List.getElem_toArray, List.getElem_cons_zero, List.getElem_cons_succ, List.setIfInBounds_toArray, List.set_cons_zero, List.set_cons_succ]
    refine wpAnyH_done (by kernel_rfl) ?_ _
    go_wp2
    go_ret
    have hP := prt_two hP5 hP6
    rw [HLL.out] at hP
    exact ⟨_, hP, a7, c7, rfl, hR7, Below.on HB.out hB7⟩
end
end Go.Proofs.YtpbgbpcdohdecaaGreatDoor
