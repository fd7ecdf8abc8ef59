/- Repaint: the law's dirt, near, awake. Laid by repaint/lay.sh. -/
import Derived.Test.YtlkodgmnhphfcaaRpH
import Derived.Test.YtlkodgmnhphfcaaDmgD
import Derived.Test.YtlkodgmnhphfcaaLibH
import Derived.Test.YtlkodgmnhphfcaaLibP
import Derived.Deep.RegionHeldLaw
namespace Go.Proofs.Ytlkodgmnhphfcaa
open Go Go.RowKit

theorem owns_new {u : World} {base e m k n c : Nat} {a : Option Addr} {xs : List Value} (h : u.ownsRow base e m (.slice a n c) k xs) {x : Addr} (hx : a = some x) : base ≤ x.block := by
  rcases h.2 with ⟨h1, _⟩ | ⟨g, cap, cur, h1, hb, _⟩
  · cases h1; cases hx
  · cases h1
    cases hx
    exact hb

set_option maxRecDepth 100000 in
set_option maxHeartbeats 1000000 in
theorem nrects_any (a : Option Addr) (n c : Nat) (l : List Rc) (w : World) (h : RdC w a n c l) (hn : n ≤ 1000000) : Calls Try.prog 13 #[.slice a n c] w fun e w' => ∃ a' c', e = .returned (.slice a' n c') ∧ RdC w' a' n c' l ∧ (∀ x, a' = some x → w.heap.size ≤ x.block) ∧ Below w.heap.size w w' := by
  obtain ⟨i0, hi, hz0, hz1, hz2⟩ := info3 infoC
  have HSR := hid (h.src (P := Try.prog) (t := 30) Try.underlying30)
  have HL := hid h.len
  have HOK := hid h.ok
  have HFIN : Hid (∀ v' w', w'.ownsRow w.heap.size 36 4 v' (0 + n) ([] ++ rccs l) → w.grownBy w' (Value.slice none 0 0).ownBlock → ∃ a' c', Ending.returned v' = .returned (.slice a' n c') ∧ RdC w' a' n c' l ∧ (∀ x, a' = some x → w.heap.size ≤ x.block) ∧ Below w.heap.size w w') := fun v' w' o g => by
    rw [Nat.zero_add, List.nil_append] at o
    obtain ⟨a', c', rfl, hr⟩ := rdc_of_owns o HOK.out
    exact ⟨a', c', rfl, hr, fun x hx => owns_new o hx, (Below.refl _ _).grown g (Nat.le_refl _) (fun k hk => by cases hk)⟩
  clear h
  go_enter Try.func13, Try.ntmps13
  go_wp2_with (at_builtin; refine wpList_append_own_src _ rfl (.const (.slice none 0 0)) (.tmp 3) 30 30 rfl w.heap.size 36 i0 (.agg #[.int .i64 0, .int .i64 0, .int .i64 0, .int .i64 0]) 4 32 Try.underlying30 hi hz0 hz1 hz2 rfl (.slice none 0 0) 0 [] rfl (World.ownsRow_nil _ _ _ _) _ _ _ rfl HSR.out (by simp only [maxLen]; omega) (fits32 (by omega)) (Nat.le_refl _) ?_; intro v9 w9 o9 g9; have H9 := hid (HFIN.out _ _ o9 g9); clear o9 g9 HFIN HSR)
  go_wp2
  go_ret
  exact H9.out

theorem max4 {P : Program} (ts : Array TypeId) (t : TypeId) (x y z v : Int) (w : World) : (Builtin.max_ ts t #[.int .i64 x, .int .i64 y, .int .i64 z, .int .i64 v]).run P w = .ok (.int .i64 (max (max (max x y) z) v)) w := by
  have e : ∀ p q : Int, (if p < q then q else p) = max p q := fun p q => by
    rw [Int.max_def]
    split <;> split <;> omega
  simp [Builtin.max_, Builtin.max2, e]
theorem min4 {P : Program} (ts : Array TypeId) (t : TypeId) (x y z v : Int) (w : World) : (Builtin.min_ ts t #[.int .i64 x, .int .i64 y, .int .i64 z, .int .i64 v]).run P w = .ok (.int .i64 (min (min (min x y) z) v)) w := by
  have e : ∀ p q : Int, (if q < p then q else p) = min p q := fun p q => by
    rw [Int.min_def]
    split <;> split <;> omega
  simp [Builtin.min_, Builtin.min2, e]
/-- Views where sums do not go round. -/
def nrv (y : List Int) : Bool := decide (max (max (max (nm5 2 y) (nm5 3 y)) (nm5 4 y)) (nm5 5 y) ≤ 67108864) && decide (-67108864 ≤ min (min (min (nm5 2 y) (nm5 3 y)) (nm5 4 y)) (nm5 5 y))
def nrB (l : List (List Int)) : Bool := l.all nrv && decide (l.length ≤ 10)
theorem nrB_len {l : List (List Int)} (h : nrB l = true) : l.length ≤ 10 := by
  rw [nrB, Bool.and_eq_true] at h
  exact of_decide_eq_true h.2

set_option maxRecDepth 100000 in
set_option maxHeartbeats 4000000 in
theorem qnear_any (a : Option Addr) (n c : Nat) (l : List (List Int)) (w : World) (h : RdM 6 w a n c l) :
    Calls Try.prog 6 #[.slice a n c] w fun e w' => e = .returned (.bool (nrB l)) ∧ Below w.heap.size w w' := by
  have HR := hid h
  have HL := hid h.len
  have hs := h.small
  obtain ⟨R, hR⟩ : ∃ R, nrB l = R := ⟨_, rfl⟩
  have HRR := hid hR
  rw [hR]
  clear h hR
  go_enter Try.func6, Try.ntmps6
  go_wp2
  go_loopw [3] (fun i wr => ∃ j : Nat, i = .int .i64 j ∧ j ≤ n ∧ (l.take j).all nrv = true ∧ Below w.heap.size w wr) (fun i _ => n - (numOf i).toNat)
  case atStart => exact ⟨0, rfl, by omega, rfl, Below.refl _ _⟩
  case round =>
    obtain ⟨j, rfl, hj, hA, hb⟩ := hrel
    have HA := hid hA
    have HB := hid hb
    clear hA hb
    by_cases hgo : j < n
    · have e1 : decide ((j : Int) < n) = true := decide_eq_true (by omega)
      have e2 : (j : Int) < n := by omega
      obtain ⟨b, off, z0, z1, z2, z3, z4, z5, rfl, hb, hy, d0, d1, d2, d3, d4, d5⟩ := (HR.out.on HB.out).el6 hgo
      have HS : Hid ((l.take (j + 1)).all nrv = nrv [z0, z1, z2, z3, z4, z5]) := by
        rw [Hid, List.take_add_one, hy, List.all_append, HA.out, Bool.true_and, Option.toList_some, List.all_cons, List.all_nil, Bool.and_true]
      have HM : Hid (nrv [z0, z1, z2, z3, z4, z5] = false → R = false) := fun h => by
        rw [← HRR.out, nrB, Bool.and_eq_false_iff]
        refine .inl ?_
        rw [List.all_eq_false]
        exact ⟨_, List.mem_of_getElem? hy, by rw [h]; decide⟩
      have HN : Hid (nrv [z0, z1, z2, z3, z4, z5] = (decide (max (max (max z2 z3) z4) z5 ≤ 67108864) && decide (-67108864 ≤ min (min (min z2 z3) z4) z5))) := rfl
      have hA := bel_new wr (.cells #[.int .i64 z0, .int .i64 z1, .int .i64 z2, .int .i64 z3, .int .i64 z4, .int .i64 z5] 40)
      have HB2 := hid (Below.on HB.out hA)
      have m1 := max4 (P := Try.prog) #[3, 3, 3, 3] 3 z2 z3 z4 z5
      have m2 := min4 (P := Try.prog) #[3, 3, 3, 3] 3 z2 z3 z4 z5
      obtain ⟨mx, hmx⟩ : ∃ m, max (max (max z2 z3) z4) z5 = m := ⟨_, rfl⟩
      obtain ⟨mn, hmn⟩ : ∃ m, min (min (min z2 z3) z4) z5 = m := ⟨_, rfl⟩
      rw [hmx] at m1 HN
      rw [hmn] at m2 HN
      clear hy hA hb HB hmx hmn
      by_cases h1 : 67108864 < mx
      · have t1 : decide (67108864 < mx) = true := decide_eq_true h1
        have HF := hid (HM.out (by rw [HN.out, decide_eq_false (by omega), Bool.false_and]))
        clear HM HS HN
        go_wp2
        go_ret
        exact ⟨by rw [HF.out]; rfl, HB2.out⟩
      · have t1 : decide (67108864 < mx) = false := decide_eq_false h1
        by_cases h2 : mn < -67108864
        · have t2 : decide (mn < -67108864) = true := decide_eq_true h2
          have HF := hid (HM.out (by rw [HN.out, decide_eq_false (p := -67108864 ≤ mn) (by omega), Bool.and_false]))
          clear HM HS HN
          go_wp2
          go_ret
          exact ⟨by rw [HF.out]; rfl, HB2.out⟩
        · have t2 : decide (mn < -67108864) = false := decide_eq_false h2
          have HT : Hid ((l.take (j + 1)).all nrv = true) := by
            rw [Hid, HS.out, HN.out, decide_eq_true (by omega), decide_eq_true (by omega)]
            rfl
          clear HM HS HN
          go_wp2
          go_roundw
          case rel => exact ⟨j + 1, by go_num, by omega, HT.out, HB2.out⟩
          case measure => simp [numOf]; omega
    · have e1 : decide ((j : Int) < n) = false := decide_eq_false (by omega)
      have HF : Hid (R = decide ((n : Int) ≤ 10)) := by
        have h1 := HA.out
        rw [List.take_of_length_le (by rw [HL.out]; omega)] at h1
        rw [Hid, ← HRR.out, nrB, h1, Bool.true_and, HL.out, Bool.eq_iff_iff, decide_eq_true_eq, decide_eq_true_eq]
        omega
      go_wp2
      go_ret
      exact ⟨by rw [HF.out]; rfl, HB.out⟩

/-- Whether there is not too much. -/
def diOk (ds : List Dv) : Bool := decide (ds.length ≤ 8) && ds.all fun d => decide (d.n ≤ 8)
theorem diOk_len {ds : List Dv} (h : diOk ds = true) : ds.length ≤ 8 := by
  rw [diOk, Bool.and_eq_true] at h
  exact of_decide_eq_true h.1
/-- What dirt answers. -/
def DiR (w : World) (ds : List Dv) (e : Ending) (w' : World) : Prop := ∃ v, e = .returned (.tuple #[v, .bool (diOk ds)]) ∧ Below w.heap.size w w' ∧ (diOk ds = true → ∃ a n c hs, v = .slice a n c ∧ RdD w' a n c hs ∧ hs.map ddl = ds.map ddl ∧ (∀ d ∈ hs, d.n ≤ 8) ∧ n ≤ 8)

theorem infoDt : (Try.prog.info? 38).map (fun i => (i.zero, i.size, i.bytes)) = some (some (.agg #[.int .i64 0, .slice none 0 0]), 2, 32) := by kernel_rfl
set_option maxRecDepth 100000 in
set_option maxHeartbeats 4000000 in
theorem qdirt_any (a : Option Addr) (n c : Nat) (ds : List Dv) (w : World) (hr : RdD w a n c ds) :
    Calls Try.prog 5 #[.slice a n c] w (DiR w ds) := by
  obtain ⟨i0, hi, hi0, hi1, hi2⟩ := info3 infoDt
  have hs := hr.small
  have HL := hid hr.len
  have HR := hid hr
  obtain ⟨R, hR⟩ : ∃ R, R = DiR w ds := ⟨_, rfl⟩
  have HNO : Hid (∀ x, diOk ds = false → Below w.heap.size w x → R (.returned (.tuple #[.slice none 0 0, .bool false])) x) := fun x h hb => by
    rw [hR]
    exact ⟨_, by rw [h], hb, fun h2 => by rw [h] at h2; cases h2⟩
  have HYES : Hid (∀ x a c hl, n ≤ 8 → (∀ d ∈ ds, d.n ≤ 8) → OwD 38 w x (.slice a n c) hl → hl.map ddl = ds.map ddl → (∀ d ∈ hl, d.n ≤ 8) → R (.returned (.tuple #[.slice a n c, .bool true])) x) := fun x a c hl h1 h2 hO hE h3 => by
    have hok : diOk ds = true := by
      rw [diOk, Bool.and_eq_true, decide_eq_true_eq, List.all_eq_true]
      exact ⟨by rw [HL.out]; exact h1, fun d hd => decide_eq_true (h2 d hd)⟩
    obtain ⟨a', c', e1, hrd⟩ := hO.rd
    have hll : hl.length = n := by
      have := congrArg List.length hE
      rw [List.length_map, List.length_map, HL.out] at this
      exact this
    rw [hR]
    refine ⟨_, by rw [hok], hO.bel, fun _ => ⟨a', hl.length, c', hl, e1, hrd, hE, h3, by omega⟩⟩
  rw [← hR]
  clear hr hR
  go_enter Try.func5, Try.ntmps5
  go_wp2
  go_loopw [4, 5] (fun v i wr => ∃ (j : Nat) (hl : List Dv), i = .int .i64 j ∧ j ≤ n ∧ hl.length = j ∧ OwD 38 w wr v hl ∧ hl.map ddl = (ds.take j).map ddl ∧ (∀ d ∈ hl, d.n ≤ 8) ∧ (∀ d ∈ ds.take j, d.n ≤ 8) ∧ (0 < j → n ≤ 8)) (fun _ i _ => n - (numOf i).toNat)
  case atStart => exact ⟨0, [], rfl, by omega, rfl, OwD.nil _ _, rfl, by simp, by simp, by omega⟩
  case round =>
    obtain ⟨j, hl, rfl, hj, hlj, hO, hE, hB, hB2, hj8⟩ := hrel
    have HLJ := hid hlj
    have HO := hid hO
    have HE := hid hE
    have HB := hid hB
    have HB2 := hid hB2
    obtain ⟨a1, c1, rfl, _⟩ := hO.rd
    rw [HLJ.out] at HO ⊢
    clear hO hE hB hB2 hlj
    by_cases hgo : j < n
    · have e1 : decide ((j : Int) < n) = true := decide_eq_true (by omega)
      have e2 : (j : Int) < n := by omega
      by_cases h8 : 8 < n
      · have e3 : decide ((8 : Int) < n) = true := decide_eq_true (by omega)
        have HF := hid (HNO.out wr (by rw [diOk, decide_eq_false (by rw [HL.out]; omega), Bool.false_and]) HO.out.bel)
        clear HNO HYES
        go_wp2
        exact HF.out
      have e3 : decide ((8 : Int) < n) = false := decide_eq_false (by omega)
      obtain ⟨b, off, g, rfl, hb, hg, hok, d0, d1⟩ := HR.out.el hgo
      have y0 := (HO.out.bel.cell hb).trans d0
      have y1 := (HO.out.bel.cell hb).trans d1
      have HG := hid hg
      have HOK := hid hok
      by_cases h4 : 8 < g.n
      · have e4 : decide ((8 : Int) < g.n) = true := decide_eq_true (by omega)
        have HF := hid (HNO.out wr (by
          rw [diOk, Bool.and_eq_false_iff]
          refine .inr ?_
          rw [List.all_eq_false]
          exact ⟨g, List.mem_of_getElem? HG.out, by simp; omega⟩) HO.out.bel)
        clear HNO HYES hg hok
        go_wp2
        exact HF.out
      have e4 : decide ((8 : Int) < g.n) = false := decide_eq_false (by omega)
      obtain ⟨s, ga, gn, gc, gl⟩ := g
      dsimp only at d0 d1 y0 y1 h4 e4 HOK
      clear HNO HYES hg hok
      go_wp2
      have HW : Hid (RowKit.Below wr.heap.size wr wr.drew) := (Below.refl _ _).drew
      refine wp_region_held_drew (S := fun x => RowKit.Below w.heap.size w x) (by kernel_rfl) ?hh (fun hHeld => ?_)
      case hh => exact (HO.out.bel.drew)
      refine wpAnyH_take (i := 0) (v := ?_) rfl (by kernel_rfl) (by kernel_rfl) (by kernel_rfl) (fun _ _ _ h => h) (Or.inl ⟨by kernel_rfl, ?hy0⟩) (by assumption) ?_
      case hy0 => (intro w hSw; (try dsimp only at hSw); have q0 := (hSw.cell hb).trans d0; have q1 := (hSw.cell hb).trans d1; go_simp; try with_reducible rfl)
      try simp only [Act.put, List.getElem_toArray, List.getElem_cons_zero, List.setIfInBounds_toArray, List.set_cons_zero, List.set_cons_succ]
      refine wpAnyH_take (i := 1) (v := ?_) rfl (by kernel_rfl) (by kernel_rfl) (by kernel_rfl) (fun _ _ _ h => h) (Or.inl ⟨by kernel_rfl, ?hy1⟩) (by assumption) ?_
      case hy1 => (intro w hSw; (try dsimp only at hSw); have q0 := (hSw.cell hb).trans d0; have q1 := (hSw.cell hb).trans d1; go_simp; try with_reducible rfl)
      try simp only [Act.put, List.getElem_toArray, List.getElem_cons_zero, List.getElem_cons_succ, List.setIfInBounds_toArray, List.set_cons_zero, List.set_cons_succ]
      refine wpAnyH_take (i := 2) (v := ?_) rfl (by kernel_rfl) (by kernel_rfl) (by kernel_rfl) (fun _ _ _ h => h) (Or.inl ⟨by kernel_rfl, ?hy2⟩) (by assumption) ?_
      case hy2 => (intro w hSw; (try dsimp only at hSw); have q0 := (hSw.cell hb).trans d0; have q1 := (hSw.cell hb).trans d1; go_simp; try with_reducible rfl)
      try simp only [Act.put, List.getElem_toArray, List.getElem_cons_zero, List.getElem_cons_succ, List.setIfInBounds_toArray, List.set_cons_zero, List.set_cons_succ]
      refine wpAnyH_take (i := 3) (v := ?_) rfl (by kernel_rfl) (by kernel_rfl) (by kernel_rfl) (fun _ _ _ h => h) (Or.inl ⟨by kernel_rfl, ?hy3⟩) (by assumption) ?_
      case hy3 => (intro w hSw; (try dsimp only at hSw); have q0 := (hSw.cell hb).trans d0; have q1 := (hSw.cell hb).trans d1; go_simp; try with_reducible rfl)
      try simp only [Act.put, List.getElem_toArray, List.getElem_cons_zero, List.getElem_cons_succ, List.setIfInBounds_toArray, List.set_cons_zero, List.set_cons_succ]
      refine wpAnyH_take (i := 4) (v := ?_) rfl (by kernel_rfl) (by kernel_rfl) (by kernel_rfl) (fun _ _ _ h => h) (Or.inl ⟨by kernel_rfl, ?hy4⟩) (by assumption) ?_
      case hy4 => (intro w hSw; (try dsimp only at hSw); have q0 := (hSw.cell hb).trans d0; have q1 := (hSw.cell hb).trans d1; go_simp; try with_reducible rfl)
      try simp only [Act.put, List.getElem_toArray, List.getElem_cons_zero, List.getElem_cons_succ, List.setIfInBounds_toArray, List.set_cons_zero, List.set_cons_succ]
      refine wpAnyH_take (i := 5) (v := ?_) rfl (by kernel_rfl) (by kernel_rfl) (by kernel_rfl) (fun _ _ _ h => h) (Or.inl ⟨by kernel_rfl, ?hy5⟩) (by assumption) ?_
      case hy5 => (intro w hSw; (try dsimp only at hSw); have q0 := (hSw.cell hb).trans d0; have q1 := (hSw.cell hb).trans d1; go_simp; try with_reducible rfl)
      try simp only [Act.put, List.getElem_toArray, List.getElem_cons_zero, List.getElem_cons_succ, List.setIfInBounds_toArray, List.set_cons_zero, List.set_cons_succ]
      refine wpAnyH_take (i := 6) (v := ?_) rfl (by kernel_rfl) (by kernel_rfl) (by kernel_rfl) (fun _ _ _ h => h) (Or.inl ⟨by kernel_rfl, ?hy6⟩) (by assumption) ?_
      case hy6 => (intro w hSw; (try dsimp only at hSw); have q0 := (hSw.cell hb).trans d0; have q1 := (hSw.cell hb).trans d1; go_simp; try with_reducible rfl)
      try simp only [Act.put, List.getElem_toArray, List.getElem_cons_zero, List.getElem_cons_succ, List.setIfInBounds_toArray, List.set_cons_zero, List.set_cons_succ]
      refine wpAnyH_take (i := 7) (v := ?_) rfl (by kernel_rfl) (by kernel_rfl) (by kernel_rfl) (fun _ _ _ h => h) (Or.inl ⟨by kernel_rfl, ?hy7⟩) (by assumption) ?_
      case hy7 => (intro w hSw; (try dsimp only at hSw); have q0 := (hSw.cell hb).trans d0; have q1 := (hSw.cell hb).trans d1; go_simp; try with_reducible rfl)
      try simp only [Act.put, List.getElem_toArray, List.getElem_cons_zero, List.getElem_cons_succ, List.setIfInBounds_toArray, List.set_cons_zero, List.set_cons_succ]
      refine wpAnyH_take (i := 8) (v := ?_) rfl (by kernel_rfl) (by kernel_rfl) (by kernel_rfl) (fun _ _ _ h => h) (Or.inl ⟨by kernel_rfl, ?hy8⟩) (by assumption) ?_
      case hy8 => (intro w hSw; (try dsimp only at hSw); have q0 := (hSw.cell hb).trans d0; have q1 := (hSw.cell hb).trans d1; go_simp; try with_reducible rfl)
      try simp only [Act.put, List.getElem_toArray, List.getElem_cons_zero, List.getElem_cons_succ, List.setIfInBounds_toArray, List.set_cons_zero, List.set_cons_succ]
      refine wpAnyH_take (i := 9) (v := ?_) rfl (by kernel_rfl) (by kernel_rfl) (by kernel_rfl) (fun _ _ _ h => h) (Or.inl ⟨by kernel_rfl, ?hy9⟩) (by assumption) ?_
      case hy9 => (intro w hSw; (try dsimp only at hSw); have q0 := (hSw.cell hb).trans d0; have q1 := (hSw.cell hb).trans d1; go_simp; try with_reducible rfl)
      try simp only [Act.put, List.getElem_toArray, List.getElem_cons_zero, List.getElem_cons_succ, List.setIfInBounds_toArray, List.set_cons_zero, List.set_cons_succ]
      refine wpAnyH_take (i := 10) (v := ?_) rfl (by kernel_rfl) (by kernel_rfl) (by kernel_rfl) (fun _ _ _ h => h) (Or.inl ⟨by kernel_rfl, ?hy10⟩) (by assumption) ?_
      case hy10 => (intro w hSw; (try dsimp only at hSw); have q0 := (hSw.cell hb).trans d0; have q1 := (hSw.cell hb).trans d1; go_simp; try with_reducible rfl)
      try simp only [Act.put, List.getElem_toArray, List.getElem_cons_zero, List.getElem_cons_succ, List.setIfInBounds_toArray, List.set_cons_zero, List.set_cons_succ]
      refine wpAnyH_ready (rs := [11]) (by kernel_rfl) (by simp) ?_
      refine AllReadyH.cons rfl (fun K hK => ?_) AllReadyH.nil
      go_simp
      go_wp2_with fail
      refine (nrects_any ga gn gc gl _ (HOK.out.rc.on hHeld) (by omega)).mono ?_
      rintro e W21 ⟨a5, c5, rfl, hR5, hn5, hb5⟩
      refine hK.out _ _ (Below.on hHeld hb5) (fun _ => ?_)
      have HB0 := hid (Below.on HW.out hb5)
      have HR5 := hid hR5
      have HN5 : Hid (∀ y, a5 = some y → wr.heap.size ≤ y.block) := fun y hy => by {have h1 := hn5 y hy; have h2 := HW.out.size; omega}
      have hH5 := Below.on hHeld hb5
      clear hK K hHeld hb5 hR5 hn5
      have hHeld := hH5
      clear hH5
      refine wpAnyH_take (i := 12) (v := ?_) rfl (by kernel_rfl) (by kernel_rfl) (by kernel_rfl) (fun _ _ _ h => h) (Or.inl ⟨by kernel_rfl, ?hy12⟩) (by assumption) ?_
      case hy12 => (intro w hSw; (try dsimp only at hSw); have q0 := (hSw.cell hb).trans d0; have q1 := (hSw.cell hb).trans d1; go_simp; try with_reducible rfl)
      try simp only [Act.put, List.getElem_toArray, List.getElem_cons_zero, List.getElem_cons_succ, List.setIfInBounds_toArray, List.set_cons_zero, List.set_cons_succ]
      refine wpAnyH_ready (rs := [13]) (by kernel_rfl) (by simp) ?_
      refine AllReadyH.cons rfl (fun K hK => ?_) AllReadyH.nil
      have hb1 := bel_new W21 (.cells #[.int .i64 s, .slice a5 gn c5] 38)
      have hH2 := Below.on hHeld hb1
      have HS5 := hid (src_dv (P := Try.prog) (T := 38) Try.underlying24 W21 ⟨s, a5, gn, c5, gl⟩)
      have HO5 := hid ((HO.out.on HB0.out).on hb1)
      have HX5 : Hid (DOk (W21.alloc (.cells #[.int .i64 s, .slice a5 gn c5] 38)) ⟨s, a5, gn, c5, gl⟩) := ⟨HOK.out.ks, HR5.out.on hb1⟩
      simp only [dvv] at HS5
      clear hb1
      go_simp
      refine hK.out _ _ hH2 (fun _ => ?_)
      clear hK K hHeld
      have hHeld := hH2
      clear hH2
      refine wpAnyH_ready (rs := [14]) (by kernel_rfl) (by simp) ?_
      refine AllReadyH.cons rfl (fun K hK => ?_) AllReadyH.nil
      refine step_appP _ (by kernel_rfl) (.tmp 24) (.tmp 37) 24 24 rfl w.heap.size 38 i0 (.agg #[.int .i64 0, .slice none 0 0]) 2 32 Try.underlying24 hi hi0 hi1 hi2 rfl _ _ _ (by simp [Act.eval]) HO5.out.own _ _ _ (by simp [Act.eval]) HS5.out (by simp only [maxLen]; have := HLJ.out; omega) (fits32 (by have := HLJ.out; omega)) HO5.out.bel.size ?_
      intro v6 W24 o6 g6 p6
      have HO6 := hid (HO5.out.more HX5.out (fun hn y hy e => by {have h1 := HN5.out y hy; have h2 := (HO.out.own.lt _ e).2; omega}) o6 g6 p6)
      clear o6 g6 p6 HO5 HS5 HX5 HB0 HR5 HN5
      refine hK.out _ _ HO6.out.bel (fun _ => ?_)
      clear hK K
      refine wpAnyH_take (i := 15) (v := ?_) rfl (by kernel_rfl) (by kernel_rfl) (by kernel_rfl) (fun _ _ _ h => h) (Or.inl ⟨by kernel_rfl, ?hy15⟩) (by assumption) ?_
      case hy15 => (intro w hSw; (try dsimp only at hSw); have q0 := (hSw.cell hb).trans d0; have q1 := (hSw.cell hb).trans d1; go_simp; try with_reducible rfl)
      try simp only [Act.put, List.getElem_toArray, List.getElem_cons_zero, List.getElem_cons_succ, List.setIfInBounds_toArray, List.set_cons_zero, List.set_cons_succ]
      refine wpAnyH_done (by kernel_rfl) ?_ _
      go_wp2
      refine ⟨⟨j + 1, hl ++ [⟨s, a5, gn, c5, gl⟩], by go_num, by omega, by rw [List.length_append, HLJ.out]; rfl, HO6.out, ?_, ?_, ?_, fun _ => by omega⟩, by simp [numOf]; omega⟩
      · rw [map_snoc (f := ddl) HG.out, List.map_append, HE.out]
        rfl
      · intro d hd
        rcases List.mem_append.1 hd with hd | hd
        · exact HB.out d hd
        · rw [List.mem_singleton.1 hd]
          show gn ≤ 8
          omega
      · intro d hd
        rw [List.take_add_one, HG.out] at hd
        rcases List.mem_append.1 hd with hd | hd
        · exact HB2.out d hd
        · rw [List.mem_singleton.1 hd]
          show gn ≤ 8
          omega
    · have e1 : decide ((j : Int) < n) = false := decide_eq_false (by omega)
      obtain rfl : j = n := by omega
      have htk : ds.take j = ds := List.take_of_length_le (by rw [HL.out]; exact Nat.le_refl _)
      have h8 : j ≤ 8 := by
        rcases Nat.eq_zero_or_pos j with h0 | h0
        · omega
        · exact hj8 h0
      have HF := hid (HYES.out wr a1 c1 hl h8 (by rw [← htk]; exact HB2.out) HO.out (by rw [HE.out, htk]) HB.out)
      clear HNO HYES htk
      go_wp2
      exact HF.out

theorem ex24_one : dfl (chl [] [[1, 0, 0, 0, 2, 2]] []) = [⟨0, 0, 2, 2⟩] := dput_nil (r := ⟨0, 0, 2, 2⟩) ⟨by decide, by decide, by decide, by decide, by decide, by decide⟩
set_option maxRecDepth 100000 in
set_option maxHeartbeats 1000000 in
theorem qawake24_any (w : World) : Calls Try.prog 7 #[] w fun e w' => e = .returned (.bool true) ∧ Below w.heap.size w w' := by
  have hg := eqlR_guard
  have q := eqlR ⟨0, 0, 2, 2⟩ ⟨0, 0, 2, 2⟩
  rw [rceq_same] at q
  dsimp only at q
  have okv : ∀ y ∈ ([[1, 0, 0, 0, 2, 2]] : List (List Int)), (vrc y).Ok := fun y hy => by
    rw [List.mem_singleton.1 hy]
    exact ⟨by decide, by decide, by decide, by decide⟩
  have hL : RdM 6 (w.alloc (.cells #[.int .i64 1, .int .i64 0, .int .i64 0, .int .i64 0, .int .i64 2, .int .i64 2] 40)) (some ⟨w.heap.size, 0, none⟩) 1 1 [[1, 0, 0, 0, 2, 2]] := by
    refine ⟨rfl, Nat.le_refl _, by decide, (fun h => by cases h), fun _ => ⟨w.heap.size, 0, rfl, by simp, fun j y hj k z hz => ?_⟩, fun y hy => by rw [List.mem_singleton.1 hy]; rfl⟩
    match j, hj with
    | 0, hj =>
      cases hj
      rw [Nat.zero_mul, Nat.zero_add, Nat.zero_add, (bk_new w #[.int .i64 1, .int .i64 0, .int .i64 0, .int .i64 0, .int .i64 2, .int .i64 2] 40).cell]
      match k, hz with
      | 0, hz => cases hz; rfl
      | 1, hz => cases hz; rfl
      | 2, hz => cases hz; rfl
      | 3, hz => cases hz; rfl
      | 4, hz => cases hz; rfl
      | 5, hz => cases hz; rfl
  have HB := hid (bel_new w (.cells #[.int .i64 1, .int .i64 0, .int .i64 0, .int .i64 0, .int .i64 2, .int .i64 2] 40))
  have C1 := hid (qchanged_any none 0 0 [] (some ⟨w.heap.size, 0, none⟩) 1 1 [[1, 0, 0, 0, 2, 2]] none 0 0 [] _ (RdM.nil 6 _) hL (RdD.nil _) (by simp) okv (by omega) (by omega) (by omega) (by simp))
  rw [show (([] : List Dv).map ddl) = [] from rfl, ex24_one] at C1
  have C2 := hid (fun u hu => qchanged_any (some ⟨w.heap.size, 0, none⟩) 1 1 [[1, 0, 0, 0, 2, 2]] (some ⟨w.heap.size, 0, none⟩) 1 1 [[1, 0, 0, 0, 2, 2]] none 0 0 [] u hu hu (RdD.nil _) okv okv (by omega) (by omega) (by omega) (by simp))
  rw [show dfl (chl [[1, 0, 0, 0, 2, 2]] [[1, 0, 0, 0, 2, 2]] (([] : List Dv).map ddl)) = [] from by rw [ch_same (by simp)]; rfl] at C2
  have HLL := hid hL
  clear hL okv
  go_enter Try.func7, Try.ntmps7
  go_wp2_with fail
  refine C1.out.mono ?_
  rintro e w1 ⟨a1, c1, rfl, h1, hb1⟩
  have HB1 := hid (Below.on HB.out hb1)
  have HL1 := hid (HLL.out.on hb1)
  have H1 := hid h1
  clear h1 hb1 C1 HB HLL
  go_wp2_with fail
  refine (C2.out _ HL1.out).mono ?_
  rintro e w2 ⟨a2, c2, rfl, h2, hb2⟩
  have HB2 := hid (Below.on HB1.out hb2)
  obtain ⟨b, off, rfl, _, hel⟩ := (H1.out.on hb2).pl (by decide)
  obtain ⟨_, d0, d1, d2, d3⟩ := hel 0 ⟨0, 0, 2, 2⟩ rfl
  simp only [Nat.zero_mul, Nat.add_zero] at d0 d1 d2 d3
  clear hb2 h2 H1 HL1 C2 hel HB1
  go_wp2
  go_ret
  exact ⟨rfl, HB2.out⟩
end Go.Proofs.Ytlkodgmnhphfcaa
