/- The contract of the program's parts: rectangles with the points that are in r and in one of clip's. -/
import Derived.Test.YtldnggokkkhihaaDoorRgnR
import Derived.Test.YtldnggokkkhihaaDoorCanB
namespace Go.Proofs.YtldnggokkkhihaaDoor
open Go Go.RowKit

/-- A region whose edges are among p across and p down. -/
structure Gd (p : Nat) (l : List Rc) : Prop where
  reg : Reg l
  grid : ∃ X Y, Grid X Y l ∧ X.length ≤ p ∧ Y.length ≤ p
theorem Gd.len {p : Nat} {l : List Rc} (h : Gd p l) : l.length ≤ p * p := by
  obtain ⟨X, Y, g, hx, hy⟩ := h.grid
  exact Nat.le_trans (grid_len h.reg.bands g) (Nat.mul_le_mul hx hy)
theorem gd_both {p q : Nat} {f : Bool → Bool → Bool} {a b : List Rc} (ha : Gd p a) (hb : Gd q b) (hf : f false false = false) : Gd (p + q) (mk f a b) := by
  obtain ⟨X, Y, g, hx, hy⟩ := ha.grid
  obtain ⟨X', Y', g', hx', hy'⟩ := hb.grid
  refine ⟨(mk_all hf ha.reg.ck hb.reg.ck).1, X ++ X', Y ++ Y', grid_mk hf ha.reg.ck hb.reg.ck (g.mono (fun x h => by simp [h]) (fun x h => by simp [h])) (g'.mono (fun x h => by simp [h]) (fun x h => by simp [h])), by rw [List.length_append]; omega, by rw [List.length_append]; omega⟩
theorem mkp {f : Bool → Bool → Bool} (hf : f false false = false) {a b : List Rc} (ha : Reg a) (hb : Reg b) (x y : Int) : pt (mk f a b) x y = f (pt a x y) (pt b x y) := (mk_all hf ha.ck hb.ck).2.1 x y
theorem union_reg {a a' : Option Addr} {n c n' c' p q : Nat} {l m : List Rc} {w : World} (h : RdC w a n c l) (h' : RdC w a' n' c' m) (hl : Gd p l) (hm : Gd q m) (hn : p * p + q * q ≤ 4096) : Calls Tryd.prog 53 #[.slice a n c, .slice a' n' c'] w (Ret w (mk or l m)) := by
  rw [← unn_reg hl.reg hm.reg]
  exact union_any a a' n c n' c' l m w h h' (by have := hl.len; have := hm.len; have := h.len; have := h'.len; omega)

/-- Whether a point is in one of clip's. -/
def inC (l : List Rc) (x y : Int) : Bool := l.any fun c => has (bnd c) x y
theorem inC_append (l m : List Rc) (x y : Int) : inC (l ++ m) x y = (inC l x y || inC m x y) := by simp [inC]

theorem may_bnd (c : Rc) : may (bnd c) = true := by
  rcases bnd_cases c with h | h
  · simp [may, h]
  · exact may_of (.inr h)
theorem may_cut {a b : Rc} (ha : may a = true) (hb : may b = true) : may (cut a b) = true := by
  cases he : emp (cut a b)
  · rcases may_cases ha with h1 | ka
    · rw [cut_emp1 h1] at he
      cases he
    · rcases may_cases hb with h2 | kb
      · rw [cut_emp2 a h2] at he
        cases he
      · exact may_of (.inr (cut_ck ka kb he))
  · simp [may, he]
theorem pt_ofl {q : Rc} (hq : may q = true) (x y : Int) : pt (ofl q) x y = has q x y := by
  unfold ofl
  split
  · rename_i h
    rw [pt_nil, ← has_bnd hq, has_emp h]
  · rw [pt_cons, pt_nil, Bool.or_false, has_bnd hq]
theorem gd_ofl (q : Rc) : Gd 2 (ofl q) := ⟨ofl_reg q, _, _, ofl_grid q, Nat.le_refl _, Nat.le_refl _⟩

/-- m is a region of the points that are in r and in one of l. -/
structure Prt (r : Rc) (l m : List Rc) : Prop where
  gd : Gd (2 * l.length) m
  pt : ∀ x y, pt m x y = (has r x y && inC l x y)

theorem prt_nil (r : Rc) : Prt r [] [] := ⟨⟨⟨fun _ h => (by cases h), List.Pairwise.nil, fun _ h => (by cases h)⟩, [], [], ⟨fun _ h => (by cases h)⟩, Nat.le_refl _, Nat.le_refl _⟩, fun x y => by simp [inC, Go.Proofs.YtldnggokkkhihaaDoor.pt]⟩
theorem prt_one {r : Rc} (hr : may r = true) (c : Rc) : Prt r [c] (ofl (cut (bnd c) r)) :=
  ⟨gd_ofl _, fun x y => by
    rw [pt_ofl (may_cut (may_bnd c) hr), has_cut (may_bnd c) hr, Bool.and_comm]
    simp [inC]⟩
theorem prt_two {r : Rc} {l l' m m' : List Rc} (h : Prt r l m) (h' : Prt r l' m') : Prt r (l ++ l') (mk or m m') :=
  ⟨by rw [List.length_append, Nat.mul_add]; exact gd_both h.gd h'.gd rfl, fun x y => by
    rw [mkp rfl h.gd.reg h'.gd.reg, h.pt, h'.pt, inC_append, Bool.and_or_distrib_left]⟩

theorem bnd_rz {c : Rc} (h : emp (bnd c) = true) : bnd c = rz := by
  cases he : emp c
  · rw [bnd_full he, oft] at h ⊢
    split at h
    · rename_i h'
      rw [if_pos h']
    · rename_i h'
      rw [emp, Bool.or_eq_true, decide_eq_true_eq, decide_eq_true_eq] at h
      dsimp only at h
      omega
  · exact bnd_emp he
theorem gd_few {a b : Nat} (ha : a ≤ 8) (hb : b ≤ 8) : 2 * a * (2 * a) + 2 * b * (2 * b) ≤ 4096 := by
  have h1 : 2 * a * (2 * a) ≤ 16 * 16 := Nat.mul_le_mul (by omega) (by omega)
  have h2 : 2 * b * (2 * b) ≤ 16 * 16 := Nat.mul_le_mul (by omega) (by omega)
  omega

theorem thn {P : Program} {f : Nat} {args : Array Value} {x W : World} {v : Ending} (h : Calls P f args x fun e w' => e = v ∧ Below x.heap.size x w') (hb : Below W.heap.size W x) : Calls P f args x fun e w' => e = v ∧ Below W.heap.size W w' :=
  h.mono fun _ _ q => ⟨q.1, Below.on hb q.2⟩

set_option maxRecDepth 100000 in
set_option maxHeartbeats 4000000 in
theorem parts_any (r : Rc) (hr : may r = true) (ok : r.Ok) : ∀ (k : Nat) (a : Option Addr) (n c : Nat) (l : List Rc) (w : World), n ≤ k → RdC w a n c l → n ≤ 16 →
    Calls Tryd.prog 39 #[.agg #[.int .i64 r.x, .int .i64 r.y, .int .i64 r.w, .int .i64 r.h], .slice a n c] w fun e w' => ∃ m, Prt r l m ∧ Ret w m e w' := by
  intro k
  induction k with
  | zero =>
    intro a n c l w hk h hn
    obtain rfl : n = 0 := by omega
    obtain rfl : l = [] := List.eq_nil_of_length_eq_zero h.len
    have HB := hid (below_new w (ob r))
    rw [ob] at HB
    clear h
    go_enter Tryd.func39, Tryd.ntmps39
    go_wp2
    go_ret
    exact ⟨[], prt_nil r, none, 0, rfl, RdC.nil _, HB.out⟩
  | succ k ih =>
    intro a n c l w hk h hn
    have HB := hid (below_new w (ob r))
    have HX := hid (bx_new w r)
    rw [ob] at HB
    have H := hid (h.on HB.out)
    have hsm := h.small
    have hle := h.le
    have HL := hid h.len
    have IH := hid ih
    clear h ih
    by_cases h0 : n = 0
    · subst h0
      obtain rfl : l = [] := List.eq_nil_of_length_eq_zero HL.out
      go_enter Tryd.func39, Tryd.ntmps39
      go_wp2
      go_ret
      exact ⟨[], prt_nil r, none, 0, rfl, RdC.nil _, HB.out⟩
    · have e0 : ((n : Int) == 0) = false := by
        rw [beq_eq_false_iff_ne]
        omega
      obtain ⟨b, off, q, rfl, hbl, hq, okq, he⟩ := H.out.el (j := 0) (by omega)
      by_cases h1 : n = 1
      · subst h1
        obtain rfl : l = [q] := by
          have := HL.out
          match l, this, hq with
          | [z], _, hq => simp only [List.getElem?_cons_zero, Option.some.injEq] at hq; rw [hq]
        rw [Nat.zero_mul, Nat.add_zero] at he
        have HE := hid he
        have CB := hid (fun u => bound_any q okq u)
        have okb : (bnd q).Ok := by
          rcases bnd_cases q with h' | h'
          · rw [bnd_rz h']
            exact rz_ok
          · exact h'.ok
        have CC := hid (fun u => cut_any (bnd q) r okb ok u)
        have okc : (cut (bnd q) r).Ok := cut_ok (may_bnd q) hr
        have CO := hid (fun u => of_any (cut (bnd q) r) okc u)
        have HP := hid (prt_one hr q)
        clear he
        go_enter Tryd.func39, Tryd.ntmps39
        go_wp2
        obtain ⟨U, HU⟩ : ∃ U, Hid (U = w.alloc (.cells #[.int .i64 r.x, .int .i64 r.y, .int .i64 r.w, .int .i64 r.h] 44)) := ⟨_, rfl⟩
        rw [← HU.out] at HX HE HB H
        rw [← HU.out]
        refine wp_region_held_drew (S := fun x => Below U.heap.size U x) (by kernel_rfl) ?hh (fun hHeld => ?_)
        case hh => exact ((Below.refl _ _).drew)
        refine wpAnyH_take (i := 0) (v := ?_) rfl (by kernel_rfl) (by kernel_rfl) (by kernel_rfl) (fun _ _ _ h => h) (Or.inl ⟨by kernel_rfl, ?hy0⟩) (by assumption) ?_
        case hy0 => (intro w hSw; (try dsimp only at hSw); obtain ⟨t0, t1, t2, t3⟩ := (HX.out.on hSw).all; obtain ⟨_, s0, s1, s2, s3⟩ := HE.out.on hSw; go_simp; try with_reducible rfl)
        try simp only [Act.put, List.getElem_toArray, List.getElem_cons_zero, List.setIfInBounds_toArray, List.set_cons_zero, List.set_cons_succ]
        refine wpAnyH_take (i := 1) (v := ?_) rfl (by kernel_rfl) (by kernel_rfl) (by kernel_rfl) (fun _ _ _ h => h) (Or.inl ⟨by kernel_rfl, ?hy1⟩) (by assumption) ?_
        case hy1 => (intro w hSw; (try dsimp only at hSw); obtain ⟨t0, t1, t2, t3⟩ := (HX.out.on hSw).all; obtain ⟨_, s0, s1, s2, s3⟩ := HE.out.on hSw; go_simp; try with_reducible rfl)
        try simp only [Act.put, List.getElem_toArray, List.getElem_cons_zero, List.getElem_cons_succ, List.setIfInBounds_toArray, List.set_cons_zero, List.set_cons_succ]
        refine wpAnyH_take (i := 2) (v := ?_) rfl (by kernel_rfl) (by kernel_rfl) (by kernel_rfl) (fun _ _ _ h => h) (Or.inl ⟨by kernel_rfl, ?hy2⟩) (by assumption) ?_
        case hy2 => (intro w hSw; (try dsimp only at hSw); obtain ⟨t0, t1, t2, t3⟩ := (HX.out.on hSw).all; obtain ⟨_, s0, s1, s2, s3⟩ := HE.out.on hSw; go_simp; try with_reducible rfl)
        try simp only [Act.put, List.getElem_toArray, List.getElem_cons_zero, List.getElem_cons_succ, List.setIfInBounds_toArray, List.set_cons_zero, List.set_cons_succ]
        refine wpAnyH_take (i := 4) (v := ?_) rfl (by kernel_rfl) (by kernel_rfl) (by kernel_rfl) (fun _ _ _ h => h) (Or.inl ⟨by kernel_rfl, ?hy4⟩) (by assumption) ?_
        case hy4 => (intro w hSw; (try dsimp only at hSw); obtain ⟨t0, t1, t2, t3⟩ := (HX.out.on hSw).all; obtain ⟨_, s0, s1, s2, s3⟩ := HE.out.on hSw; go_simp; try with_reducible rfl)
        try simp only [Act.put, List.getElem_toArray, List.getElem_cons_zero, List.getElem_cons_succ, List.setIfInBounds_toArray, List.set_cons_zero, List.set_cons_succ]
        refine wpAnyH_ready (rs := [3]) (by kernel_rfl) (by simp) ?_
        refine AllReadyH.cons rfl (fun K hK => ?_) AllReadyH.nil
        go_simp
        go_wp2_with fail
        refine (thn (CB.out _) hHeld).mono ?_
        rintro e u203 ⟨rfl, hS3⟩
        refine hK.out _ _ hS3 (fun _ => ?_)
        clear hK K hHeld
        have hHeld := hS3
        clear hS3
        refine wpAnyH_ready (rs := [5]) (by kernel_rfl) (by simp) ?_
        refine AllReadyH.cons rfl (fun K hK => ?_) AllReadyH.nil
        go_simp
        go_wp2_with fail
        refine (thn (CC.out _) hHeld).mono ?_
        rintro e u205 ⟨rfl, hS5⟩
        refine hK.out _ _ hS5 (fun _ => ?_)
        clear hK K hHeld
        have hHeld := hS5
        clear hS5
        refine wpAnyH_ready (rs := [6]) (by kernel_rfl) (by simp) ?_
        refine AllReadyH.cons rfl (fun K hK => ?_) AllReadyH.nil
        go_simp
        go_wp2_with fail
        refine (CO.out _).mono ?_
        rintro e u9 ⟨a9, c9, rfl, hR, hb⟩
        have hB9 := Below.on hHeld hb
        refine hK.out _ _ hB9 (fun _ => ?_)
        clear hK K hHeld hb
        refine wpAnyH_take (i := 7) (v := ?_) rfl (by kernel_rfl) (by kernel_rfl) (by kernel_rfl) (fun _ _ _ h => h) (Or.inl ⟨by kernel_rfl, ?hy7⟩) (by assumption) ?_
        case hy7 => (intro w hSw; (try dsimp only at hSw); obtain ⟨t0, t1, t2, t3⟩ := (HX.out.on hSw).all; obtain ⟨_, s0, s1, s2, s3⟩ := HE.out.on hSw; go_simp; try with_reducible rfl)
        try simp only [Act.put, List.getElem_toArray, List.getElem_cons_zero, List.getElem_cons_succ, List.setIfInBounds_toArray, List.set_cons_zero, List.set_cons_succ]
        refine wpAnyH_done (by kernel_rfl) ?_ _
        go_wp2
        go_ret
        exact ⟨_, HP.out, a9, c9, rfl, hR, Below.on HB.out hB9⟩
      · have e1 : ((n : Int) == 1) = false := by
          rw [beq_eq_false_iff_ne]
          omega
        obtain ⟨m, hm⟩ : ∃ m, n / 2 = m := ⟨_, rfl⟩
        have hm1 : 1 ≤ m ∧ m < n ∧ m ≤ 8 ∧ n - m ≤ 8 := by omega
        have e2 : (n : Int).tdiv 2 = m := by
          rw [Int.tdiv_eq_ediv_of_nonneg (by omega)]
          omega
        have e3 : IntKind.i64.wrap (m : Int) = m := by
          rw [IntKind.wrap_i64]
          omega
        have e4 : m ≤ c := by omega
        have e5 : m ≤ n := by omega
        have e6 : ¬ c = m := by omega
        clear hm
        have H1 := hid (H.out.take (k := m) (by omega))
        have H2 := hid (H.out.drop (k := m) (by omega))
        have HLL : Hid (l.take m ++ l.drop m = l) := List.take_append_drop m l
        clear he hq
        go_enter Tryd.func39, Tryd.ntmps39
        go_wp2
        obtain ⟨U, HU⟩ : ∃ U, Hid (U = w.alloc (.cells #[.int .i64 r.x, .int .i64 r.y, .int .i64 r.w, .int .i64 r.h] 44)) := ⟨_, rfl⟩
        rw [← HU.out] at HX HB H H1 H2
        rw [← HU.out]
        refine wp_region_held_drew (S := fun x => Below U.heap.size U x) (by kernel_rfl) ?hh (fun hHeld => ?_)
        case hh => exact ((Below.refl _ _).drew)
        refine wpAnyH_take (i := 0) (v := ?_) rfl (by kernel_rfl) (by kernel_rfl) (by kernel_rfl) (fun _ _ _ h => h) (Or.inl ⟨by kernel_rfl, ?hy0⟩) (by assumption) ?_
        case hy0 => (intro w hSw; (try dsimp only at hSw); obtain ⟨t0, t1, t2, t3⟩ := (HX.out.on hSw).all; go_simp; try with_reducible rfl)
        try simp only [Act.put, List.getElem_toArray, List.getElem_cons_zero, List.setIfInBounds_toArray, List.set_cons_zero, List.set_cons_succ]
        refine wpAnyH_take (i := 1) (v := ?_) rfl (by kernel_rfl) (by kernel_rfl) (by kernel_rfl) (fun _ _ _ h => h) (Or.inl ⟨by kernel_rfl, ?hy1⟩) (by assumption) ?_
        case hy1 => (intro w hSw; (try dsimp only at hSw); obtain ⟨t0, t1, t2, t3⟩ := (HX.out.on hSw).all; go_simp; try with_reducible rfl)
        try simp only [Act.put, List.getElem_toArray, List.getElem_cons_zero, List.getElem_cons_succ, List.setIfInBounds_toArray, List.set_cons_zero, List.set_cons_succ]
        refine wpAnyH_take (i := 2) (v := ?_) rfl (by kernel_rfl) (by kernel_rfl) (by kernel_rfl) (fun _ _ _ h => h) (Or.inl ⟨by kernel_rfl, ?hy2⟩) (by assumption) ?_
        case hy2 => (intro w hSw; (try dsimp only at hSw); obtain ⟨t0, t1, t2, t3⟩ := (HX.out.on hSw).all; go_simp; try with_reducible rfl)
        try simp only [Act.put, List.getElem_toArray, List.getElem_cons_zero, List.getElem_cons_succ, List.setIfInBounds_toArray, List.set_cons_zero, List.set_cons_succ]
        refine wpAnyH_take (i := 3) (v := ?_) rfl (by kernel_rfl) (by kernel_rfl) (by kernel_rfl) (fun _ _ _ h => h) (Or.inl ⟨by kernel_rfl, ?hy3⟩) (by assumption) ?_
        case hy3 => (intro w hSw; (try dsimp only at hSw); obtain ⟨t0, t1, t2, t3⟩ := (HX.out.on hSw).all; go_simp; try with_reducible rfl)
        try simp only [Act.put, List.getElem_toArray, List.getElem_cons_zero, List.getElem_cons_succ, List.setIfInBounds_toArray, List.set_cons_zero, List.set_cons_succ]
        refine wpAnyH_take (i := 4) (v := ?_) rfl (by kernel_rfl) (by kernel_rfl) (by kernel_rfl) (fun _ _ _ h => h) (Or.inl ⟨by kernel_rfl, ?hy4⟩) (by assumption) ?_
        case hy4 => (intro w hSw; (try dsimp only at hSw); obtain ⟨t0, t1, t2, t3⟩ := (HX.out.on hSw).all; go_simp; try with_reducible rfl)
        try simp only [Act.put, List.getElem_toArray, List.getElem_cons_zero, List.getElem_cons_succ, List.setIfInBounds_toArray, List.set_cons_zero, List.set_cons_succ]
        refine wpAnyH_take (i := 6) (v := ?_) rfl (by kernel_rfl) (by kernel_rfl) (by kernel_rfl) (fun _ _ _ h => h) (Or.inl ⟨by kernel_rfl, ?hy6⟩) (by assumption) ?_
        case hy6 => (intro w hSw; (try dsimp only at hSw); obtain ⟨t0, t1, t2, t3⟩ := (HX.out.on hSw).all; go_simp; try with_reducible rfl)
        try simp only [Act.put, List.getElem_toArray, List.getElem_cons_zero, List.getElem_cons_succ, List.setIfInBounds_toArray, List.set_cons_zero, List.set_cons_succ]
        refine wpAnyH_take (i := 7) (v := ?_) rfl (by kernel_rfl) (by kernel_rfl) (by kernel_rfl) (fun _ _ _ h => h) (Or.inl ⟨by kernel_rfl, ?hy7⟩) (by assumption) ?_
        case hy7 => (intro w hSw; (try dsimp only at hSw); obtain ⟨t0, t1, t2, t3⟩ := (HX.out.on hSw).all; go_simp; try with_reducible rfl)
        try simp only [Act.put, List.getElem_toArray, List.getElem_cons_zero, List.getElem_cons_succ, List.setIfInBounds_toArray, List.set_cons_zero, List.set_cons_succ]
        refine wpAnyH_take (i := 8) (v := ?_) rfl (by kernel_rfl) (by kernel_rfl) (by kernel_rfl) (fun _ _ _ h => h) (Or.inl ⟨by kernel_rfl, ?hy8⟩) (by assumption) ?_
        case hy8 => (intro w hSw; (try dsimp only at hSw); obtain ⟨t0, t1, t2, t3⟩ := (HX.out.on hSw).all; go_simp; try with_reducible rfl)
        try simp only [Act.put, List.getElem_toArray, List.getElem_cons_zero, List.getElem_cons_succ, List.setIfInBounds_toArray, List.set_cons_zero, List.set_cons_succ]
        refine wpAnyH_take (i := 9) (v := ?_) rfl (by kernel_rfl) (by kernel_rfl) (by kernel_rfl) (fun _ _ _ h => h) (Or.inl ⟨by kernel_rfl, ?hy9⟩) (by assumption) ?_
        case hy9 => (intro w hSw; (try dsimp only at hSw); obtain ⟨t0, t1, t2, t3⟩ := (HX.out.on hSw).all; go_simp; try with_reducible rfl)
        try simp only [Act.put, List.getElem_toArray, List.getElem_cons_zero, List.getElem_cons_succ, List.setIfInBounds_toArray, List.set_cons_zero, List.set_cons_succ]
        refine wpAnyH_take (i := 10) (v := ?_) rfl (by kernel_rfl) (by kernel_rfl) (by kernel_rfl) (fun _ _ _ h => h) (Or.inl ⟨by kernel_rfl, ?hy10⟩) (by assumption) ?_
        case hy10 => (intro w hSw; (try dsimp only at hSw); obtain ⟨t0, t1, t2, t3⟩ := (HX.out.on hSw).all; go_simp; try with_reducible rfl)
        try simp only [Act.put, List.getElem_toArray, List.getElem_cons_zero, List.getElem_cons_succ, List.setIfInBounds_toArray, List.set_cons_zero, List.set_cons_succ]
        refine wpAnyH_ready (rs := [5]) (by kernel_rfl) (by simp) ?_
        refine AllReadyH.cons rfl (fun K hK => ?_) AllReadyH.nil
        go_simp
        go_wp2_with fail
        refine (IH.out _ m c (l.take m) _ (by omega) (H1.out.on hHeld) (by omega)).mono ?_
        rintro e u5 ⟨m5, hP5, a5, c5, rfl, hR5, hb⟩
        have hB5 := Below.on hHeld hb
        refine hK.out _ _ hB5 (fun _ => ?_)
        clear hK K hHeld hb
        have hHeld := hB5
        clear hB5
        refine wpAnyH_ready (rs := [11]) (by kernel_rfl) (by simp) ?_
        refine AllReadyH.cons rfl (fun K hK => ?_) AllReadyH.nil
        go_simp
        go_wp2_with fail
        refine (IH.out _ (n - m) (c - m) (l.drop m) _ (by omega) (H2.out.on hHeld) (by omega)).mono ?_
        rintro e u6 ⟨m6, hP6, a6, c6, rfl, hR6, hb⟩
        have hB6 := Below.on hHeld hb
        refine hK.out _ _ hB6 (fun _ => ?_)
        have hR5' := hR5.on hb
        clear hK K hHeld hb hR5
        have hHeld := hB6
        clear hB6
        refine wpAnyH_ready (rs := [12]) (by kernel_rfl) (by simp) ?_
        refine AllReadyH.cons rfl (fun K hK => ?_) AllReadyH.nil
        go_simp
        go_wp2_with fail
        refine (union_reg hR5' hR6 hP5.gd hP6.gd ?_).mono ?_
        · exact gd_few (by rw [List.length_take, HL.out]; omega) (by rw [List.length_drop, HL.out]; omega)
        rintro e u7 ⟨a7, c7, rfl, hR7, hb⟩
        have hB7 := Below.on hHeld hb
        refine hK.out _ _ hB7 (fun _ => ?_)
        clear hK K hHeld hb
        refine wpAnyH_take (i := 13) (v := ?_) rfl (by kernel_rfl) (by kernel_rfl) (by kernel_rfl) (fun _ _ _ h => h) (Or.inl ⟨by kernel_rfl, ?hy13⟩) (by assumption) ?_
        case hy13 => (intro w hSw; (try dsimp only at hSw); obtain ⟨t0, t1, t2, t3⟩ := (HX.out.on hSw).all; go_simp; try with_reducible rfl)
        try simp only [Act.put, List.getElem_toArray, List.getElem_cons_zero, List.getElem_cons_succ, List.setIfInBounds_toArray, List.set_cons_zero, List.set_cons_succ]
        refine wpAnyH_done (by kernel_rfl) ?_ _
        go_wp2
        go_ret
        have hP := prt_two hP5 hP6
        rw [HLL.out] at hP
        exact ⟨_, hP, a7, c7, rfl, hR7, Below.on HB.out hB7⟩
end Go.Proofs.YtldnggokkkhihaaDoor
