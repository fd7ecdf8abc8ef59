/- The document's store, V: Buffer. -/
import Derived.Test.YtnfenfleahennaaDoorPolK
import Derived.Test.YtnfenfleahennaaDoorPolR
namespace Go.Proofs.YtnfenfleahennaaDoor
open Go Go.RowKit

variable {base : Nat} {w w' : World} {q : Nat} {P : PL} {B : BL}

theorem grown_var {u u' : World} {row : Option Nat} (g : u.grownBy u' row) {k : Nat} {o : Obj} (h : u.heap[k]? = some o) (hn : some k ≠ row) : u'.heap[k]? = some o := by
  rw [g.block k (Array.getElem?_eq_some_iff.1 h).1 hn]
  exact h
theorem mk9 {V U : World} (hB : Below V.heap.size V U) (o : Obj) : Below V.heap.size V (U.alloc o) ∧ (U.alloc o).heap[U.heap.size]? = some o := ⟨hB.alloc hB.size o, heap_alloc_new U o⟩
theorem srcB' {U : World} {g : Nat} (e : Int × Bf) (h : U.heap[g]? = some (.cells #[.int .i64 e.1, .int .i64 e.2.1.k, .int .i64 e.2.1.o, .int .i64 e.2.1.w, .int .i64 e.2.1.h, .int .i64 e.2.1.s, .int .i64 e.2.1.f, .bool (!e.2.2)] 79 (0, 0))) : Src Tryd.prog 8 27 (.slice (some ⟨g, 0, none⟩) 1 1) 1 (bcs [e]) U :=
  Src.ofSlice (P := Tryd.prog) _ Tryd.underlying27 ⟨g, 0, none⟩ 1 1 (bcs [e]) rfl (fun q u hu => by
    rw [Go.WideShapes.add_plain, Nat.zero_add, Lib.cell_of_heap h]
    match q, hu with
    | 0, hu => exact hu
    | 1, hu => exact hu
    | 2, hu => exact hu
    | 3, hu => exact hu
    | 4, hu => exact hu
    | 5, hu => exact hu
    | 6, hu => exact hu
    | 7, hu => exact hu
    | q + 8, hu => simp [bcs, bcs1] at hu) (bcs_one _)

/-- The buffer's numbers as they came in. -/
structure Bx6 (x : World) (G : Nat) (k o wd h s f : Int) : Prop where
  c0 : x.cell? ⟨G, 0, none⟩ = some (.int .i64 k)
  c1 : x.cell? ⟨G, 1, none⟩ = some (.int .i64 o)
  c2 : x.cell? ⟨G, 2, none⟩ = some (.int .i64 wd)
  c3 : x.cell? ⟨G, 3, none⟩ = some (.int .i64 h)
  c4 : x.cell? ⟨G, 4, none⟩ = some (.int .i64 s)
  c5 : x.cell? ⟨G, 5, none⟩ = some (.int .i64 f)
theorem Bx6.kp {X : List Nat} {x y : World} {G : Nat} {k o wd h s f : Int} (b : Bx6 x G k o wd h s f) (hk : Kp X x y) (hG : G ∉ X) : Bx6 y G k o wd h s f :=
  ⟨hk.cell b.c0 hG, hk.cell b.c1 hG, hk.cell b.c2 hG, hk.cell b.c3 hG, hk.cell b.c4 hG, hk.cell b.c5 hG⟩
theorem bx6_of {x : World} {G : Nat} {k o wd h s f : Int} (e : x.heap[G]? = some (.cells #[.int .i64 k, .int .i64 o, .int .i64 wd, .int .i64 h, .int .i64 s, .int .i64 f] 47 (0, 0))) : Bx6 x G k o wd h s f := by
  refine ⟨?_, ?_, ?_, ?_, ?_, ?_⟩
  all_goals rw [Lib.cell_of_heap e]; rfl

theorem bld79 (id a b c d e f : Int) (w : World) : (Instr.build 79 #[(0, .int .i64 id), (1, .agg #[.int .i64 a, .int .i64 b, .int .i64 c, .int .i64 d, .int .i64 e, .int .i64 f]), (2, .bool true)]).run Tryd.prog w = .ok (.agg #[.int .i64 id, .int .i64 a, .int .i64 b, .int .i64 c, .int .i64 d, .int .i64 e, .int .i64 f, .bool true]) w := by kernel_rfl

set_option maxRecDepth 100000 in
set_option maxHeartbeats 1000000 in
theorem rbufc_any (hT : Dst base w q P B) (hnp : P.length < 999) (hn : B.length < 999) (id pool off wd h st fm : Int) (h1 : I64 off) (h2 : I64 wd) (h3 : I64 h) (h4 : I64 st) :
    Calls Tryd.prog 23 #[.pointer (some ⟨q, 0, none⟩), .int .i64 id, .int .i64 pool, .agg #[.int .i64 0, .int .i64 off, .int .i64 wd, .int .i64 h, .int .i64 st, .int .i64 fm]] w fun e w' => Dgv base w q (bufE P B id pool off wd h st fm) P (bufS P B id pool off wd h st fm) e w' := by
  have hb1 : Below w.heap.size w (w.alloc (.cells #[.int .i64 0, .int .i64 off, .int .i64 wd, .int .i64 h, .int .i64 st, .int .i64 fm] 47)) := (Below.refl _ _).alloc (Nat.le_refl _) _
  have hT1 := hT.on hb1
  have HP := hid (rpool_any hT1 (by omega) pool)
  have HQ := hid (rbuffer_any hT1 (by omega) id)
  have HNO : Hid (bufE P B id pool off wd h st fm = 5 → Dgv base w q (bufE P B id pool off wd h st fm) P (bufS P B id pool off wd h st fm) (.returned (.int .i64 (5 : Nat))) (w.alloc (.cells #[.int .i64 0, .int .i64 off, .int .i64 wd, .int .i64 h, .int .i64 st, .int .i64 fm] 47))) := fun e => by
    rw [bufS, e, if_neg (by decide)]
    exact ⟨rfl, hT1, dfb_below hT hb1⟩
  cases hx : gt P pool with
  | none =>
    have HX := hid (HNO.out (by rw [bufE, hx]))
    rw [ixI_none hx] at HP
    clear hT hT1 hx HNO hb1
    go_enter Tryd.func23, Tryd.ntmps23
    go_wp2_with fail
    refine HP.out.mono ?_
    rintro e w1 ⟨rfl, rfl⟩
    go_wp2
    go_ret
    exact HX.out
  | some x =>
    obtain ⟨k, sz⟩ := x
    rw [ixI_some hx] at HP
    have e1 : decide ((ix P pool : Int) < 0) = false := decide_eq_false (by omega)
    cases hg : gt B id with
    | some y =>
      have HX := hid (HNO.out (by rw [bufE, hx, hg]; rfl))
      rw [ixI_some hg] at HQ
      have e2 : decide ((0 : Int) ≤ (ix B id : Int)) = true := decide_eq_true (by omega)
      clear hT hT1 hx hg HNO hb1
      generalize ix P pool = j at *
      generalize ix B id = i at *
      go_enter Tryd.func23, Tryd.ntmps23
      go_wp2_with fail
      refine HP.out.mono ?_
      rintro e w1 ⟨rfl, hw1⟩
      subst hw1
      go_wp2_with fail
      refine HQ.out.mono ?_
      rintro e w1 ⟨rfl, hw1⟩
      subst hw1
      go_wp2
      go_ret
      exact HX.out
    | none =>
      have hsz := hT.ok.at_ hx
      simp only at hsz
      have he : bufE P B id pool off wd h st fm = rmE sz off wd h st fm := by rw [bufE, hx, hg]; rfl
      have hs : bufS P B id pool off wd h st fm = if rmE sz off wd h st fm = 0 then wr B id (⟨k, off, wd, h, st, fm⟩, false) else B := by rw [bufS, he, hx]; rfl
      rw [ixI_none hg] at HQ
      have HG := hid hg
      have HRM := hid (fun u : World => rroom_any sz off wd h st fm u (by omega) h1 h2 h3 h4)
      obtain ⟨g, c, c0, hle, hmax, hbg, hgl, hgq, cK, cS, -, -⟩ := (hT1.on (Below.refl _ _).drew).pat hx
      have hgw : g ≠ w.heap.size := by
        rintro rfl
        obtain ⟨g2, c2, c02, -, -, -, hgl2, -⟩ := hT.pat hx
        rw [(Below.on hb1 (Below.refl _ _).drew).cell hT.lt, c02] at c0
        cases c0
        omega
      have hlt := ix_lt hx
      have hBx0 : Bx6 (w.alloc (.cells #[.int .i64 0, .int .i64 off, .int .i64 wd, .int .i64 h, .int .i64 st, .int .i64 fm] 47)).drew w.heap.size 0 off wd h st fm := bx6_of (heap_alloc_new w _)
      have HBL := hid (Below.on hb1 (Below.refl _ _).drew)
      have HVH : Hid ((w.alloc (.cells #[.int .i64 0, .int .i64 off, .int .i64 wd, .int .i64 h, .int .i64 st, .int .i64 fm] 47)).drew.heap[w.heap.size]? = some (.cells #[.int .i64 0, .int .i64 off, .int .i64 wd, .int .i64 h, .int .i64 st, .int .i64 fm] 47 (0, 0))) := heap_alloc_new w _
      have HT := hid hT
      have HC : Hid (_ ∧ _ ∧ _ ∧ _) := ⟨c0, cK, cS, hBx0⟩
      have hGq : w.heap.size ≠ q := Nat.ne_of_gt hT.lt
      have hq := hT.lt
      rw [he, hs]
      simp only [maxLen] at hmax
      clear hT hT1 hx hg HNO hb1 he hs c0 cK cS hBx0
      generalize ix P pool = j at *
      generalize hNP : P.length = np at *
      clear hNP
      have hj0 : (0 : Int) ≤ (j : Int) := by omega
      have hj1 : (j : Int) < (np : Int) := by omega
      generalize hr : rmE sz off wd h st fm = r at *
      obtain ⟨B', hB'⟩ : ∃ B', B' = if r = 0 then wr B id (⟨k, off, wd, h, st, fm⟩, false) else B := ⟨_, rfl⟩
      rw [← hB']
      have HB' := hid hB'
      clear hB' hr
      go_enter Tryd.func23, Tryd.ntmps23
      go_wp2_with fail
      refine HP.out.mono ?_
      rintro e w1 ⟨rfl, hw1⟩
      subst hw1
      go_wp2_with fail
      refine HQ.out.mono ?_
      rintro e w1 ⟨rfl, hw1⟩
      subst hw1
      go_wp2_with fail
      have hHeld := (show _ ∧ _ ∧ _ from ⟨HC.out.1, HC.out.2.2.1, HC.out.2.2.2⟩)
      refine wp_region_held_drew (S := fun x => x.cell? ⟨q, 0, none⟩ = some (.slice (some ⟨g, 0, none⟩) np c) ∧ x.cell? ⟨g, j * 3 + 2, none⟩ = some (.int .i64 sz) ∧ Bx6 x w.heap.size 0 off wd h st fm) (by kernel_rfl) hHeld (fun _ => ?_)
      refine wpAnyH_take (i := 0) (v := ?_) rfl (by kernel_rfl) (by kernel_rfl) (by kernel_rfl) (fun _ _ _ h => h) (Or.inl ⟨by kernel_rfl, ?hy0⟩) (by assumption) ?_
      case hy0 => (intro w hSw; (try dsimp only at hSw); obtain ⟨t0, t1, ⟨t2, t3, t4, t5, t6, t7⟩⟩ := hSw; go_simp; try with_reducible rfl)
      try simp only [Act.put, List.getElem_toArray, List.getElem_cons_zero, List.setIfInBounds_toArray, List.set_cons_zero, List.set_cons_succ]
      refine wpAnyH_take (i := 1) (v := ?_) rfl (by kernel_rfl) (by kernel_rfl) (by kernel_rfl) (fun _ _ _ h => h) (Or.inl ⟨by kernel_rfl, ?hy1⟩) (by assumption) ?_
      case hy1 => (intro w hSw; (try dsimp only at hSw); obtain ⟨t0, t1, ⟨t2, t3, t4, t5, t6, t7⟩⟩ := hSw; go_simp; try with_reducible rfl)
      try simp only [Act.put, List.getElem_toArray, List.getElem_cons_zero, List.getElem_cons_succ, List.setIfInBounds_toArray, List.set_cons_zero, List.set_cons_succ]
      refine wpAnyH_take (i := 2) (v := ?_) rfl (by kernel_rfl) (by kernel_rfl) (by kernel_rfl) (fun _ _ _ h => h) (Or.inl ⟨by kernel_rfl, ?hy2⟩) (by assumption) ?_
      case hy2 => (intro w hSw; (try dsimp only at hSw); obtain ⟨t0, t1, ⟨t2, t3, t4, t5, t6, t7⟩⟩ := hSw; go_simp; try with_reducible rfl)
      try simp only [Act.put, List.getElem_toArray, List.getElem_cons_zero, List.getElem_cons_succ, List.setIfInBounds_toArray, List.set_cons_zero, List.set_cons_succ]
      refine wpAnyH_take (i := 3) (v := ?_) rfl (by kernel_rfl) (by kernel_rfl) (by kernel_rfl) (fun _ _ _ h => h) (Or.inl ⟨by kernel_rfl, ?hy3⟩) (by assumption) ?_
      case hy3 => (intro w hSw; (try dsimp only at hSw); obtain ⟨t0, t1, ⟨t2, t3, t4, t5, t6, t7⟩⟩ := hSw; go_simp; try with_reducible rfl)
      try simp only [Act.put, List.getElem_toArray, List.getElem_cons_zero, List.getElem_cons_succ, List.setIfInBounds_toArray, List.set_cons_zero, List.set_cons_succ]
      refine wpAnyH_take (i := 4) (v := ?_) rfl (by kernel_rfl) (by kernel_rfl) (by kernel_rfl) (fun _ _ _ h => h) (Or.inl ⟨by kernel_rfl, ?hy4⟩) (by assumption) ?_
      case hy4 => (intro w hSw; (try dsimp only at hSw); obtain ⟨t0, t1, ⟨t2, t3, t4, t5, t6, t7⟩⟩ := hSw; go_simp; try with_reducible rfl)
      try simp only [Act.put, List.getElem_toArray, List.getElem_cons_zero, List.getElem_cons_succ, List.setIfInBounds_toArray, List.set_cons_zero, List.set_cons_succ]
      refine wpAnyH_take (i := 5) (v := ?_) rfl (by kernel_rfl) (by kernel_rfl) (by kernel_rfl) (fun _ _ _ h => h) (Or.inl ⟨by kernel_rfl, ?hy5⟩) (by assumption) ?_
      case hy5 => (intro w hSw; (try dsimp only at hSw); obtain ⟨t0, t1, ⟨t2, t3, t4, t5, t6, t7⟩⟩ := hSw; go_simp; try with_reducible rfl)
      try simp only [Act.put, List.getElem_toArray, List.getElem_cons_zero, List.getElem_cons_succ, List.setIfInBounds_toArray, List.set_cons_zero, List.set_cons_succ]
      refine wpAnyH_take (i := 6) (v := ?_) rfl (by kernel_rfl) (by kernel_rfl) (by kernel_rfl) (fun _ _ _ h => h) (Or.inl ⟨by kernel_rfl, ?hy6⟩) (by assumption) ?_
      case hy6 => (intro w hSw; (try dsimp only at hSw); obtain ⟨t0, t1, ⟨t2, t3, t4, t5, t6, t7⟩⟩ := hSw; go_simp; try with_reducible rfl)
      try simp only [Act.put, List.getElem_toArray, List.getElem_cons_zero, List.getElem_cons_succ, List.setIfInBounds_toArray, List.set_cons_zero, List.set_cons_succ]
      refine wpAnyH_take (i := 7) (v := ?_) rfl (by kernel_rfl) (by kernel_rfl) (by kernel_rfl) (fun _ _ _ h => h) (Or.inl ⟨by kernel_rfl, ?hy7⟩) (by assumption) ?_
      case hy7 => (intro w hSw; (try dsimp only at hSw); obtain ⟨t0, t1, ⟨t2, t3, t4, t5, t6, t7⟩⟩ := hSw; go_simp; try with_reducible rfl)
      try simp only [Act.put, List.getElem_toArray, List.getElem_cons_zero, List.getElem_cons_succ, List.setIfInBounds_toArray, List.set_cons_zero, List.set_cons_succ]
      refine wpAnyH_take (i := 8) (v := ?_) rfl (by kernel_rfl) (by kernel_rfl) (by kernel_rfl) (fun _ _ _ h => h) (Or.inl ⟨by kernel_rfl, ?hy8⟩) (by assumption) ?_
      case hy8 => (intro w hSw; (try dsimp only at hSw); obtain ⟨t0, t1, ⟨t2, t3, t4, t5, t6, t7⟩⟩ := hSw; go_simp; try with_reducible rfl)
      try simp only [Act.put, List.getElem_toArray, List.getElem_cons_zero, List.getElem_cons_succ, List.setIfInBounds_toArray, List.set_cons_zero, List.set_cons_succ]
      refine wpAnyH_take (i := 9) (v := ?_) rfl (by kernel_rfl) (by kernel_rfl) (by kernel_rfl) (fun _ _ _ h => h) (Or.inl ⟨by kernel_rfl, ?hy9⟩) (by assumption) ?_
      case hy9 => (intro w hSw; (try dsimp only at hSw); obtain ⟨t0, t1, ⟨t2, t3, t4, t5, t6, t7⟩⟩ := hSw; go_simp; try with_reducible rfl)
      try simp only [Act.put, List.getElem_toArray, List.getElem_cons_zero, List.getElem_cons_succ, List.setIfInBounds_toArray, List.set_cons_zero, List.set_cons_succ]
      refine wpAnyH_take (i := 10) (v := ?_) rfl (by kernel_rfl) (by kernel_rfl) (by kernel_rfl) (fun _ _ _ h => h) (Or.inl ⟨by kernel_rfl, ?hy10⟩) (by assumption) ?_
      case hy10 => (intro w hSw; (try dsimp only at hSw); obtain ⟨t0, t1, ⟨t2, t3, t4, t5, t6, t7⟩⟩ := hSw; go_simp; try with_reducible rfl)
      try simp only [Act.put, List.getElem_toArray, List.getElem_cons_zero, List.getElem_cons_succ, List.setIfInBounds_toArray, List.set_cons_zero, List.set_cons_succ]
      refine wpAnyH_take (i := 11) (v := ?_) rfl (by kernel_rfl) (by kernel_rfl) (by kernel_rfl) (fun _ _ _ h => h) (Or.inl ⟨by kernel_rfl, ?hy11⟩) (by assumption) ?_
      case hy11 => (intro w hSw; (try dsimp only at hSw); obtain ⟨t0, t1, ⟨t2, t3, t4, t5, t6, t7⟩⟩ := hSw; go_simp; try with_reducible rfl)
      try simp only [Act.put, List.getElem_toArray, List.getElem_cons_zero, List.getElem_cons_succ, List.setIfInBounds_toArray, List.set_cons_zero, List.set_cons_succ]
      refine wpAnyH_take (i := 12) (v := ?_) rfl (by kernel_rfl) (by kernel_rfl) (by kernel_rfl) (fun _ _ _ h => h) (Or.inl ⟨by kernel_rfl, ?hy12⟩) (by assumption) ?_
      case hy12 => (intro w hSw; (try dsimp only at hSw); obtain ⟨t0, t1, ⟨t2, t3, t4, t5, t6, t7⟩⟩ := hSw; go_simp; try with_reducible rfl)
      try simp only [Act.put, List.getElem_toArray, List.getElem_cons_zero, List.getElem_cons_succ, List.setIfInBounds_toArray, List.set_cons_zero, List.set_cons_succ]
      refine wpAnyH_take (i := 13) (v := ?_) rfl (by kernel_rfl) (by kernel_rfl) (by kernel_rfl) (fun _ _ _ h => h) (Or.inl ⟨by kernel_rfl, ?hy13⟩) (by assumption) ?_
      case hy13 => (intro w hSw; (try dsimp only at hSw); obtain ⟨t0, t1, ⟨t2, t3, t4, t5, t6, t7⟩⟩ := hSw; go_simp; try with_reducible rfl)
      try simp only [Act.put, List.getElem_toArray, List.getElem_cons_zero, List.getElem_cons_succ, List.setIfInBounds_toArray, List.set_cons_zero, List.set_cons_succ]
      refine wpAnyH_take (i := 14) (v := ?_) rfl (by kernel_rfl) (by kernel_rfl) (by kernel_rfl) (fun _ _ _ h => h) (Or.inl ⟨by kernel_rfl, ?hy14⟩) (by assumption) ?_
      case hy14 => (intro w hSw; (try dsimp only at hSw); obtain ⟨t0, t1, ⟨t2, t3, t4, t5, t6, t7⟩⟩ := hSw; go_simp; try with_reducible rfl)
      try simp only [Act.put, List.getElem_toArray, List.getElem_cons_zero, List.getElem_cons_succ, List.setIfInBounds_toArray, List.set_cons_zero, List.set_cons_succ]
      refine wpAnyH_take (i := 15) (v := ?_) rfl (by kernel_rfl) (by kernel_rfl) (by kernel_rfl) (fun _ _ _ h => h) (Or.inl ⟨by kernel_rfl, ?hy15⟩) (by assumption) ?_
      case hy15 => (intro w hSw; (try dsimp only at hSw); obtain ⟨t0, t1, ⟨t2, t3, t4, t5, t6, t7⟩⟩ := hSw; go_simp; try with_reducible rfl)
      try simp only [Act.put, List.getElem_toArray, List.getElem_cons_zero, List.getElem_cons_succ, List.setIfInBounds_toArray, List.set_cons_zero, List.set_cons_succ]
      refine wpAnyH_take (i := 16) (v := ?_) rfl (by kernel_rfl) (by kernel_rfl) (by kernel_rfl) (fun _ _ _ h => h) (Or.inl ⟨by kernel_rfl, ?hy16⟩) (by assumption) ?_
      case hy16 => (intro w hSw; (try dsimp only at hSw); obtain ⟨t0, t1, ⟨t2, t3, t4, t5, t6, t7⟩⟩ := hSw; go_simp; try with_reducible rfl)
      try simp only [Act.put, List.getElem_toArray, List.getElem_cons_zero, List.getElem_cons_succ, List.setIfInBounds_toArray, List.set_cons_zero, List.set_cons_succ]
      refine wpAnyH_take (i := 17) (v := ?_) rfl (by kernel_rfl) (by kernel_rfl) (by kernel_rfl) (fun _ _ _ h => h) (Or.inl ⟨by kernel_rfl, ?hy17⟩) (by assumption) ?_
      case hy17 => (intro w hSw; (try dsimp only at hSw); obtain ⟨t0, t1, ⟨t2, t3, t4, t5, t6, t7⟩⟩ := hSw; go_simp; try with_reducible rfl)
      try simp only [Act.put, List.getElem_toArray, List.getElem_cons_zero, List.getElem_cons_succ, List.setIfInBounds_toArray, List.set_cons_zero, List.set_cons_succ]
      refine wpAnyH_ready (rs := [18]) (by kernel_rfl) (by simp) ?_
      refine AllReadyH.cons rfl (fun K hK => ?_) AllReadyH.nil
      go_simp
      go_wp2_with fail
      refine (HRM.out _).mono ?_
      rintro e u218 ⟨rfl, rfl⟩
      refine hK.out _ _ hHeld (fun _ => ?_)
      clear hK K
      refine wpAnyH_take (i := 19) (v := ?_) rfl (by kernel_rfl) (by kernel_rfl) (by kernel_rfl) (fun _ _ _ h => h) (Or.inl ⟨by kernel_rfl, ?hy19⟩) (by assumption) ?_
      case hy19 => (intro w hSw; (try dsimp only at hSw); obtain ⟨t0, t1, ⟨t2, t3, t4, t5, t6, t7⟩⟩ := hSw; go_simp; try with_reducible rfl)
      try simp only [Act.put, List.getElem_toArray, List.getElem_cons_zero, List.getElem_cons_succ, List.setIfInBounds_toArray, List.set_cons_zero, List.set_cons_succ]
      refine wpAnyH_done (by kernel_rfl) ?_ _
      have hfz : ∀ i, (w.alloc (.cells #[.int .i64 0, .int .i64 off, .int .i64 wd, .int .i64 h, .int .i64 st, .int .i64 fm] 47)).drew.frozen? ⟨w.heap.size, i, none⟩ = false := Lib.frozen_of_heap HVH.out
      obtain ⟨W, hW⟩ : ∃ W, W = (w.alloc (.cells #[.int .i64 0, .int .i64 off, .int .i64 wd, .int .i64 h, .int .i64 st, .int .i64 fm] 47)).drew := ⟨_, rfl⟩
      rw [← hW] at HC HBL HVH hfz ⊢
      clear hW HP HQ HRM
      by_cases hr0 : r = 0
      · subst hr0
        rw [Hid, if_pos rfl] at HB'
        have HB' := hid HB'
        obtain ⟨s0, sK, -, -⟩ := HC.out
        have z0 : W.cell? ⟨w.heap.size, 0, none⟩ = some (.int .i64 0) := HC.out.2.2.2.c0
        have fz0 := hfz 0
        have hWs : w.heap.size < W.heap.size := (Array.getElem?_eq_some_iff.1 HVH.out).1
        clear hfz
        go_wp2_with fail
        have hBV : Below w.heap.size w (W.setCell ⟨w.heap.size, 0, none⟩ (.int .i64 k)) := HBL.out.setCell (Nat.le_refl _) _
        have hVH := heap_setCell_same W w.heap.size 0 _ _ (.int .i64 k) HVH.out
        obtain ⟨V, hV⟩ : ∃ V, V = W.setCell ⟨w.heap.size, 0, none⟩ (.int .i64 k) := ⟨_, rfl⟩
        rw [← hV] at hBV hVH ⊢
        have hBx : Bx6 V w.heap.size k off wd h st fm := bx6_of hVH
        have HTV := hid (HT.out.on hBV)
        have HBV0 := hid hBV
        have HBX := hid hBx
        clear hV hBV hVH hBx s0 sK z0 fz0 HC HVH HBL
        obtain ⟨G, hG⟩ : ∃ G, G = w.heap.size := ⟨_, rfl⟩
        rw [← hG] at HBX hGq ⊢
        clear hG
        obtain ⟨i0, hi, hz0, hz1, hz2⟩ := info_parts infoB
        obtain ⟨pv, bv, hv, hp, hbo, _⟩ := HTV.out.var
        have C1 : Hid (V.cell? ⟨q, 1, none⟩ = some bv) := by rw [Hid, Lib.cell_of_heap hv]; rfl
        have HV := hid hv
        have OB := hid hbo
        have hqV := HTV.out.lt
        have hGV : G < V.heap.size := World.block_lt_of_cell? _ _ HBX.out.c0
        have HX : Hid (∀ u v, Below V.heap.size V u → u.ownsRow V.heap.size 79 8 v (B.length + 1) (bcs B ++ bcs [(id, (⟨k, off, wd, h, st, fm⟩, false))]) → Dgv base w q 0 P B' (.returned (.int .i64 (0 : Nat))) (u.setCell ⟨q, 1, none⟩ v)) := fun u v hb o => by
          have hw : wr B id (⟨k, off, wd, h, st, fm⟩, false) = B ++ [(id, (⟨k, off, wd, h, st, fm⟩, false))] := by rw [wr, HG.out]; rfl
          have hok := HTV.out.ok.wrb id (⟨k, off, wd, h, st, fm⟩, false)
          rw [HB'.out]
          rw [hw] at hok ⊢
          rw [← bcs_app] at o
          obtain ⟨r1, r2⟩ := HTV.out.putB hb (B' := B ++ [(id, (⟨k, off, wd, h, st, fm⟩, false))]) (by rw [List.length_append]; exact o) hok
          exact ⟨rfl, r1, (dfb_below HT.out HBV0.out).trans r2⟩
        have HSB : Hid (∀ u, Below V.heap.size V u → Bx6 u G k off wd h st fm) := fun u hu => HBX.out.kp (kp_of_below hu []) (by simp)
        have hbl := bld79
        clear hv hp hbo
        generalize B.length = n at *
        have hB : Below V.heap.size V V.drew := (Below.refl _ _).drew
        have hHeld := HSB.out _ hB
        refine wp_region_held_drew (S := fun x => Bx6 x G k off wd h st fm) (by kernel_rfl) hHeld (fun _ => ?_)
        generalize V.drew = U0 at *
        refine wpAnyH_take (i := 0) (v := ?_) rfl (by kernel_rfl) (by kernel_rfl) (by kernel_rfl) (fun _ _ _ h => h) (Or.inl ⟨by kernel_rfl, ?hy0⟩) (by assumption) ?_
        case hy0 => (intro w hSw; (try dsimp only at hSw); obtain ⟨t2, t3, t4, t5, t6, t7⟩ := hSw; go_simp; try with_reducible rfl)
        try simp only [Act.put, List.getElem_toArray, List.getElem_cons_zero, List.setIfInBounds_toArray, List.set_cons_zero, List.set_cons_succ]
        refine wpAnyH_take (i := 1) (v := ?_) rfl (by kernel_rfl) (by kernel_rfl) (by kernel_rfl) (fun _ _ _ h => h) (Or.inl ⟨by kernel_rfl, ?hy1⟩) (by assumption) ?_
        case hy1 => (intro w hSw; (try dsimp only at hSw); obtain ⟨t2, t3, t4, t5, t6, t7⟩ := hSw; go_simp; try with_reducible rfl)
        try simp only [Act.put, List.getElem_toArray, List.getElem_cons_zero, List.getElem_cons_succ, List.setIfInBounds_toArray, List.set_cons_zero, List.set_cons_succ]
        refine wpAnyH_take (i := 2) (v := ?_) rfl (by kernel_rfl) (by kernel_rfl) (by kernel_rfl) (fun _ _ _ h => h) (Or.inl ⟨by kernel_rfl, ?hy2⟩) (by assumption) ?_
        case hy2 => (intro w hSw; (try dsimp only at hSw); obtain ⟨t2, t3, t4, t5, t6, t7⟩ := hSw; go_simp; try with_reducible rfl)
        try simp only [Act.put, List.getElem_toArray, List.getElem_cons_zero, List.getElem_cons_succ, List.setIfInBounds_toArray, List.set_cons_zero, List.set_cons_succ]
        refine wpAnyH_take (i := 3) (v := ?_) rfl (by kernel_rfl) (by kernel_rfl) (by kernel_rfl) (fun _ _ _ h => h) (Or.inl ⟨by kernel_rfl, ?hy3⟩) (by assumption) ?_
        case hy3 => (intro w hSw; (try dsimp only at hSw); obtain ⟨t2, t3, t4, t5, t6, t7⟩ := hSw; go_simp; try with_reducible rfl)
        try simp only [Act.put, List.getElem_toArray, List.getElem_cons_zero, List.getElem_cons_succ, List.setIfInBounds_toArray, List.set_cons_zero, List.set_cons_succ]
        refine wpAnyH_take (i := 6) (v := ?_) rfl (by kernel_rfl) (by kernel_rfl) (by kernel_rfl) (fun _ _ _ h => h) (Or.inl ⟨by kernel_rfl, ?hy6⟩) (by assumption) ?_
        case hy6 => (intro w hSw; (try dsimp only at hSw); obtain ⟨t2, t3, t4, t5, t6, t7⟩ := hSw; go_simp; try with_reducible rfl)
        try simp only [Act.put, List.getElem_toArray, List.getElem_cons_zero, List.getElem_cons_succ, List.setIfInBounds_toArray, List.set_cons_zero, List.set_cons_succ]
        refine wpAnyH_take (i := 7) (v := ?_) rfl (by kernel_rfl) (by kernel_rfl) (by kernel_rfl) (fun _ _ _ h => h) (Or.inl ⟨by kernel_rfl, ?hy7⟩) (by assumption) ?_
        case hy7 => (intro w hSw; (try dsimp only at hSw); obtain ⟨t2, t3, t4, t5, t6, t7⟩ := hSw; go_simp; try with_reducible rfl)
        try simp only [Act.put, List.getElem_toArray, List.getElem_cons_zero, List.getElem_cons_succ, List.setIfInBounds_toArray, List.set_cons_zero, List.set_cons_succ]
        refine wpAnyH_take (i := 8) (v := ?_) rfl (by kernel_rfl) (by kernel_rfl) (by kernel_rfl) (fun _ _ _ h => h) (Or.inl ⟨by kernel_rfl, ?hy8⟩) (by assumption) ?_
        case hy8 => (intro w hSw; (try dsimp only at hSw); obtain ⟨t2, t3, t4, t5, t6, t7⟩ := hSw; go_simp; try with_reducible rfl)
        try simp only [Act.put, List.getElem_toArray, List.getElem_cons_zero, List.getElem_cons_succ, List.setIfInBounds_toArray, List.set_cons_zero, List.set_cons_succ]
        refine wpAnyH_ready (rs := [4, 9]) (by kernel_rfl) (by simp) ?_
        refine AllReadyH.cons rfl (fun K hK => ?_) ?_
        · have c1 := (kp_of_below hB []).cell C1.out (by simp)
          go_simp
          refine hK.out _ _ (HSB.out _ hB) (fun _ => ?_)
          clear hK K c1
          try simp only [Act.put, List.getElem_toArray, List.getElem_cons_zero, List.getElem_cons_succ, List.setIfInBounds_toArray, List.set_cons_zero, List.set_cons_succ]
          refine wpAnyH_ready (rs := [5, 9]) (by kernel_rfl) (by simp) ?_
          refine AllReadyH.cons rfl (fun K hK => ?_) ?_
          · refine step_append_own_src rfl (.const (.slice none 0 0)) (.tmp 57) 27 27 rfl V.heap.size 79 i0 (.agg #[.int .i64 0, .int .i64 0, .int .i64 0, .int .i64 0, .int .i64 0, .int .i64 0, .int .i64 0, .bool false]) 8 64 Tryd.underlying27 hi hz0 hz1 hz2 rfl _ 0 [] (by simp [Act.eval]) (World.ownsRow_nil _ _ _ _) _ _ _ (by simp [Act.eval]) (src_own (ownsRow_below OB.out hB) Tryd.underlying27 (bcs_one B)) (by simp only [maxLen]; omega) (fits64 (by omega) 64 (by decide)) hB.size ?_
            intro v1 u1 o1 g1
            rw [Nat.zero_add, List.nil_append] at o1
            try replace hG9 := grown_var g1 hG9 (by simp [Value.ownBlock])
            have hB := below_grown hB g1 (fun k hk => by cases hk)
            clear g1
            refine hK.out _ _ (HSB.out _ hB) (fun _ => ?_)
            clear hK K
            try simp only [Act.put, List.getElem_toArray, List.getElem_cons_zero, List.getElem_cons_succ, List.setIfInBounds_toArray, List.set_cons_zero, List.set_cons_succ]
            refine wpAnyH_ready (rs := [9]) (by kernel_rfl) (by simp) ?_
            refine AllReadyH.cons rfl (fun K hK => ?_) AllReadyH.nil
            obtain ⟨hB9, hG9⟩ := mk9 hB (.cells #[.int .i64 id, .int .i64 k, .int .i64 off, .int .i64 wd, .int .i64 h, .int .i64 st, .int .i64 fm, .bool true] 79 (0, 0))
            try replace o1 := o1.alloc (.cells #[.int .i64 id, .int .i64 k, .int .i64 off, .int .i64 wd, .int .i64 h, .int .i64 st, .int .i64 fm, .bool true] 79 (0, 0))
            go_simp
            refine hK.out _ _ (HSB.out _ hB9) (fun _ => ?_)
            clear hK K hB
            have hB := hB9
            clear hB9
            try simp only [Act.put, List.getElem_toArray, List.getElem_cons_zero, List.getElem_cons_succ, List.setIfInBounds_toArray, List.set_cons_zero, List.set_cons_succ]
            refine wpAnyH_ready (rs := [10]) (by kernel_rfl) (by simp) ?_
            refine AllReadyH.cons rfl (fun K hK => ?_) AllReadyH.nil
            refine step_append_own_src rfl (.tmp 58) (.tmp 62) 27 27 rfl V.heap.size 79 i0 (.agg #[.int .i64 0, .int .i64 0, .int .i64 0, .int .i64 0, .int .i64 0, .int .i64 0, .int .i64 0, .bool false]) 8 64 Tryd.underlying27 hi hz0 hz1 hz2 rfl _ _ _ (by simp [Act.eval]) o1 _ _ _ (by simp [Act.eval]) (srcB' (id, (⟨k, off, wd, h, st, fm⟩, false)) hG9) (by simp only [maxLen]; omega) (fits64 (by omega) 64 (by decide)) hB.size ?_
            intro v2 u2 o2 g2
            obtain ⟨a2, c2, rfl, -⟩ := row_of o2
            have hB := below_grown hB g2 (fun k hk => (o1.lt k hk).1)
            clear g2
            refine hK.out _ _ (HSB.out _ hB) (fun _ => ?_)
            clear hK K
            try simp only [Act.put, List.getElem_toArray, List.getElem_cons_zero, List.getElem_cons_succ, List.setIfInBounds_toArray, List.set_cons_zero, List.set_cons_succ]
            refine wpAnyH_take (i := 11) (v := ?_) rfl (by kernel_rfl) (by kernel_rfl) (by kernel_rfl) (fun _ _ _ h => h) (Or.inl ⟨by kernel_rfl, ?hy11⟩) (by assumption) ?_
            case hy11 => (intro w hSw; (try dsimp only at hSw); obtain ⟨t2, t3, t4, t5, t6, t7⟩ := hSw; go_simp; try with_reducible rfl)
            try simp only [Act.put, List.getElem_toArray, List.getElem_cons_zero, List.getElem_cons_succ, List.setIfInBounds_toArray, List.set_cons_zero, List.set_cons_succ]
            refine wpAnyH_take (i := 12) (v := ?_) rfl (by kernel_rfl) (by kernel_rfl) (by kernel_rfl) (fun _ _ _ h => h) (Or.inl ⟨by kernel_rfl, ?hy12⟩) (by assumption) ?_
            case hy12 => (intro w hSw; (try dsimp only at hSw); obtain ⟨t2, t3, t4, t5, t6, t7⟩ := hSw; go_simp; try with_reducible rfl)
            try simp only [Act.put, List.getElem_toArray, List.getElem_cons_zero, List.getElem_cons_succ, List.setIfInBounds_toArray, List.set_cons_zero, List.set_cons_succ]
            refine wpAnyH_ready (rs := [13]) (by kernel_rfl) (by simp) ?_
            refine AllReadyH.cons rfl (fun K hK => ?_) AllReadyH.nil
            have HV4 := (kp_of_below hB []).var HV.out (by simp)
            have HY := hid (HX.out _ _ hB o2)
            have c4 : u2.cell? ⟨q, 1, none⟩ = some bv := (by rw [Lib.cell_of_heap HV4]; rfl)
            have f4 := Lib.frozen_of_heap HV4 1
            have hSS := (HSB.out _ hB).kp ((Kp.refl [q] u2).set ⟨q, 1, none⟩ (by simp) (.slice a2 (n + 1) c2)) (by simpa using hGq)
            go_simp
            refine hK.out _ _ hSS (fun _ => ?_)
            clear hK K c4 f4 HV4
            try simp only [Act.put, List.getElem_toArray, List.getElem_cons_zero, List.getElem_cons_succ, List.setIfInBounds_toArray, List.set_cons_zero, List.set_cons_succ]
            refine wpAnyH_done (by kernel_rfl) ?_ _
            go_wp2
            go_ret
            exact HY.out
          refine AllReadyH.cons rfl (fun K hK => ?_) ?_
          · obtain ⟨hB9, hG9⟩ := mk9 hB (.cells #[.int .i64 id, .int .i64 k, .int .i64 off, .int .i64 wd, .int .i64 h, .int .i64 st, .int .i64 fm, .bool true] 79 (0, 0))
            try replace o1 := o1.alloc (.cells #[.int .i64 id, .int .i64 k, .int .i64 off, .int .i64 wd, .int .i64 h, .int .i64 st, .int .i64 fm, .bool true] 79 (0, 0))
            go_simp
            refine hK.out _ _ (HSB.out _ hB9) (fun _ => ?_)
            clear hK K hB
            have hB := hB9
            clear hB9
            try simp only [Act.put, List.getElem_toArray, List.getElem_cons_zero, List.getElem_cons_succ, List.setIfInBounds_toArray, List.set_cons_zero, List.set_cons_succ]
            refine wpAnyH_ready (rs := [5]) (by kernel_rfl) (by simp) ?_
            refine AllReadyH.cons rfl (fun K hK => ?_) AllReadyH.nil
            refine step_append_own_src rfl (.const (.slice none 0 0)) (.tmp 57) 27 27 rfl V.heap.size 79 i0 (.agg #[.int .i64 0, .int .i64 0, .int .i64 0, .int .i64 0, .int .i64 0, .int .i64 0, .int .i64 0, .bool false]) 8 64 Tryd.underlying27 hi hz0 hz1 hz2 rfl _ 0 [] (by simp [Act.eval]) (World.ownsRow_nil _ _ _ _) _ _ _ (by simp [Act.eval]) (src_own (ownsRow_below OB.out hB) Tryd.underlying27 (bcs_one B)) (by simp only [maxLen]; omega) (fits64 (by omega) 64 (by decide)) hB.size ?_
            intro v1 u1 o1 g1
            rw [Nat.zero_add, List.nil_append] at o1
            try replace hG9 := grown_var g1 hG9 (by simp [Value.ownBlock])
            have hB := below_grown hB g1 (fun k hk => by cases hk)
            clear g1
            refine hK.out _ _ (HSB.out _ hB) (fun _ => ?_)
            clear hK K
            try simp only [Act.put, List.getElem_toArray, List.getElem_cons_zero, List.getElem_cons_succ, List.setIfInBounds_toArray, List.set_cons_zero, List.set_cons_succ]
            refine wpAnyH_ready (rs := [10]) (by kernel_rfl) (by simp) ?_
            refine AllReadyH.cons rfl (fun K hK => ?_) AllReadyH.nil
            refine step_append_own_src rfl (.tmp 58) (.tmp 62) 27 27 rfl V.heap.size 79 i0 (.agg #[.int .i64 0, .int .i64 0, .int .i64 0, .int .i64 0, .int .i64 0, .int .i64 0, .int .i64 0, .bool false]) 8 64 Tryd.underlying27 hi hz0 hz1 hz2 rfl _ _ _ (by simp [Act.eval]) o1 _ _ _ (by simp [Act.eval]) (srcB' (id, (⟨k, off, wd, h, st, fm⟩, false)) hG9) (by simp only [maxLen]; omega) (fits64 (by omega) 64 (by decide)) hB.size ?_
            intro v2 u2 o2 g2
            obtain ⟨a2, c2, rfl, -⟩ := row_of o2
            have hB := below_grown hB g2 (fun k hk => (o1.lt k hk).1)
            clear g2
            refine hK.out _ _ (HSB.out _ hB) (fun _ => ?_)
            clear hK K
            try simp only [Act.put, List.getElem_toArray, List.getElem_cons_zero, List.getElem_cons_succ, List.setIfInBounds_toArray, List.set_cons_zero, List.set_cons_succ]
            refine wpAnyH_take (i := 11) (v := ?_) rfl (by kernel_rfl) (by kernel_rfl) (by kernel_rfl) (fun _ _ _ h => h) (Or.inl ⟨by kernel_rfl, ?hy11⟩) (by assumption) ?_
            case hy11 => (intro w hSw; (try dsimp only at hSw); obtain ⟨t2, t3, t4, t5, t6, t7⟩ := hSw; go_simp; try with_reducible rfl)
            try simp only [Act.put, List.getElem_toArray, List.getElem_cons_zero, List.getElem_cons_succ, List.setIfInBounds_toArray, List.set_cons_zero, List.set_cons_succ]
            refine wpAnyH_take (i := 12) (v := ?_) rfl (by kernel_rfl) (by kernel_rfl) (by kernel_rfl) (fun _ _ _ h => h) (Or.inl ⟨by kernel_rfl, ?hy12⟩) (by assumption) ?_
            case hy12 => (intro w hSw; (try dsimp only at hSw); obtain ⟨t2, t3, t4, t5, t6, t7⟩ := hSw; go_simp; try with_reducible rfl)
            try simp only [Act.put, List.getElem_toArray, List.getElem_cons_zero, List.getElem_cons_succ, List.setIfInBounds_toArray, List.set_cons_zero, List.set_cons_succ]
            refine wpAnyH_ready (rs := [13]) (by kernel_rfl) (by simp) ?_
            refine AllReadyH.cons rfl (fun K hK => ?_) AllReadyH.nil
            have HV4 := (kp_of_below hB []).var HV.out (by simp)
            have HY := hid (HX.out _ _ hB o2)
            have c4 : u2.cell? ⟨q, 1, none⟩ = some bv := (by rw [Lib.cell_of_heap HV4]; rfl)
            have f4 := Lib.frozen_of_heap HV4 1
            have hSS := (HSB.out _ hB).kp ((Kp.refl [q] u2).set ⟨q, 1, none⟩ (by simp) (.slice a2 (n + 1) c2)) (by simpa using hGq)
            go_simp
            refine hK.out _ _ hSS (fun _ => ?_)
            clear hK K c4 f4 HV4
            try simp only [Act.put, List.getElem_toArray, List.getElem_cons_zero, List.getElem_cons_succ, List.setIfInBounds_toArray, List.set_cons_zero, List.set_cons_succ]
            refine wpAnyH_done (by kernel_rfl) ?_ _
            go_wp2
            go_ret
            exact HY.out
          exact AllReadyH.nil
        refine AllReadyH.cons rfl (fun K hK => ?_) ?_
        · obtain ⟨hB9, hG9⟩ := mk9 hB (.cells #[.int .i64 id, .int .i64 k, .int .i64 off, .int .i64 wd, .int .i64 h, .int .i64 st, .int .i64 fm, .bool true] 79 (0, 0))
          try replace o1 := o1.alloc (.cells #[.int .i64 id, .int .i64 k, .int .i64 off, .int .i64 wd, .int .i64 h, .int .i64 st, .int .i64 fm, .bool true] 79 (0, 0))
          go_simp
          refine hK.out _ _ (HSB.out _ hB9) (fun _ => ?_)
          clear hK K hB
          have hB := hB9
          clear hB9
          try simp only [Act.put, List.getElem_toArray, List.getElem_cons_zero, List.getElem_cons_succ, List.setIfInBounds_toArray, List.set_cons_zero, List.set_cons_succ]
          refine wpAnyH_ready (rs := [4]) (by kernel_rfl) (by simp) ?_
          refine AllReadyH.cons rfl (fun K hK => ?_) AllReadyH.nil
          have c1 := (kp_of_below hB []).cell C1.out (by simp)
          go_simp
          refine hK.out _ _ (HSB.out _ hB) (fun _ => ?_)
          clear hK K c1
          try simp only [Act.put, List.getElem_toArray, List.getElem_cons_zero, List.getElem_cons_succ, List.setIfInBounds_toArray, List.set_cons_zero, List.set_cons_succ]
          refine wpAnyH_ready (rs := [5]) (by kernel_rfl) (by simp) ?_
          refine AllReadyH.cons rfl (fun K hK => ?_) AllReadyH.nil
          refine step_append_own_src rfl (.const (.slice none 0 0)) (.tmp 57) 27 27 rfl V.heap.size 79 i0 (.agg #[.int .i64 0, .int .i64 0, .int .i64 0, .int .i64 0, .int .i64 0, .int .i64 0, .int .i64 0, .bool false]) 8 64 Tryd.underlying27 hi hz0 hz1 hz2 rfl _ 0 [] (by simp [Act.eval]) (World.ownsRow_nil _ _ _ _) _ _ _ (by simp [Act.eval]) (src_own (ownsRow_below OB.out hB) Tryd.underlying27 (bcs_one B)) (by simp only [maxLen]; omega) (fits64 (by omega) 64 (by decide)) hB.size ?_
          intro v1 u1 o1 g1
          rw [Nat.zero_add, List.nil_append] at o1
          try replace hG9 := grown_var g1 hG9 (by simp [Value.ownBlock])
          have hB := below_grown hB g1 (fun k hk => by cases hk)
          clear g1
          refine hK.out _ _ (HSB.out _ hB) (fun _ => ?_)
          clear hK K
          try simp only [Act.put, List.getElem_toArray, List.getElem_cons_zero, List.getElem_cons_succ, List.setIfInBounds_toArray, List.set_cons_zero, List.set_cons_succ]
          refine wpAnyH_ready (rs := [10]) (by kernel_rfl) (by simp) ?_
          refine AllReadyH.cons rfl (fun K hK => ?_) AllReadyH.nil
          refine step_append_own_src rfl (.tmp 58) (.tmp 62) 27 27 rfl V.heap.size 79 i0 (.agg #[.int .i64 0, .int .i64 0, .int .i64 0, .int .i64 0, .int .i64 0, .int .i64 0, .int .i64 0, .bool false]) 8 64 Tryd.underlying27 hi hz0 hz1 hz2 rfl _ _ _ (by simp [Act.eval]) o1 _ _ _ (by simp [Act.eval]) (srcB' (id, (⟨k, off, wd, h, st, fm⟩, false)) hG9) (by simp only [maxLen]; omega) (fits64 (by omega) 64 (by decide)) hB.size ?_
          intro v2 u2 o2 g2
          obtain ⟨a2, c2, rfl, -⟩ := row_of o2
          have hB := below_grown hB g2 (fun k hk => (o1.lt k hk).1)
          clear g2
          refine hK.out _ _ (HSB.out _ hB) (fun _ => ?_)
          clear hK K
          try simp only [Act.put, List.getElem_toArray, List.getElem_cons_zero, List.getElem_cons_succ, List.setIfInBounds_toArray, List.set_cons_zero, List.set_cons_succ]
          refine wpAnyH_take (i := 11) (v := ?_) rfl (by kernel_rfl) (by kernel_rfl) (by kernel_rfl) (fun _ _ _ h => h) (Or.inl ⟨by kernel_rfl, ?hy11⟩) (by assumption) ?_
          case hy11 => (intro w hSw; (try dsimp only at hSw); obtain ⟨t2, t3, t4, t5, t6, t7⟩ := hSw; go_simp; try with_reducible rfl)
          try simp only [Act.put, List.getElem_toArray, List.getElem_cons_zero, List.getElem_cons_succ, List.setIfInBounds_toArray, List.set_cons_zero, List.set_cons_succ]
          refine wpAnyH_take (i := 12) (v := ?_) rfl (by kernel_rfl) (by kernel_rfl) (by kernel_rfl) (fun _ _ _ h => h) (Or.inl ⟨by kernel_rfl, ?hy12⟩) (by assumption) ?_
          case hy12 => (intro w hSw; (try dsimp only at hSw); obtain ⟨t2, t3, t4, t5, t6, t7⟩ := hSw; go_simp; try with_reducible rfl)
          try simp only [Act.put, List.getElem_toArray, List.getElem_cons_zero, List.getElem_cons_succ, List.setIfInBounds_toArray, List.set_cons_zero, List.set_cons_succ]
          refine wpAnyH_ready (rs := [13]) (by kernel_rfl) (by simp) ?_
          refine AllReadyH.cons rfl (fun K hK => ?_) AllReadyH.nil
          have HV4 := (kp_of_below hB []).var HV.out (by simp)
          have HY := hid (HX.out _ _ hB o2)
          have c4 : u2.cell? ⟨q, 1, none⟩ = some bv := (by rw [Lib.cell_of_heap HV4]; rfl)
          have f4 := Lib.frozen_of_heap HV4 1
          have hSS := (HSB.out _ hB).kp ((Kp.refl [q] u2).set ⟨q, 1, none⟩ (by simp) (.slice a2 (n + 1) c2)) (by simpa using hGq)
          go_simp
          refine hK.out _ _ hSS (fun _ => ?_)
          clear hK K c4 f4 HV4
          try simp only [Act.put, List.getElem_toArray, List.getElem_cons_zero, List.getElem_cons_succ, List.setIfInBounds_toArray, List.set_cons_zero, List.set_cons_succ]
          refine wpAnyH_done (by kernel_rfl) ?_ _
          go_wp2
          go_ret
          exact HY.out
        exact AllReadyH.nil
      · have e5 : ((r : Int) != 0) = true := by simpa using hr0
        rw [Hid, if_neg hr0] at HB'
        have HX : Hid (Dgv base w q r P B' (.returned (.int .i64 (r : Nat))) W) := by
          rw [Hid, HB']
          exact ⟨rfl, HT.out.on HBL.out, dfb_below HT.out HBL.out⟩
        clear HB'
        go_wp2
        go_ret
        exact HX.out
end Go.Proofs.YtnfenfleahennaaDoor
