/- How many points; how many rectangles; regions of a few rectangles; moved. No program. -/
import Derived.Test.YtlkodgmnhphfcaaRgnF
namespace Go.Proofs.Ytlkodgmnhphfcaa
open Go Go.RowKit

/-- A sum over the first n numbers. -/
def S : Nat → (Nat → Int) → Int
  | 0, _ => 0
  | n + 1, g => S n g + g n
theorem S_congr {n : Nat} {g g' : Nat → Int} (h : ∀ i < n, g i = g' i) : S n g = S n g' := by
  induction n with
  | zero => rfl
  | succ n ih => rw [S, S, ih fun i hi => h i (by omega), h n (by omega)]
theorem S_add (n : Nat) (g g' : Nat → Int) : S n (fun i => g i + g' i) = S n g + S n g' := by
  induction n with
  | zero => rfl
  | succ n ih => rw [S, S, S, ih]; omega
theorem S_mul (n : Nat) (g : Nat → Int) (c : Int) : S n (fun i => g i * c) = S n g * c := by
  induction n with
  | zero => rw [S, S, Int.zero_mul]
  | succ n ih => rw [S, S, ih, Int.add_mul]
theorem S_zero (n : Nat) : S n (fun _ => 0) = 0 := by
  induction n with
  | zero => rfl
  | succ n ih => rw [S, ih]; rfl
def one (b : Bool) : Int := if b = true then 1 else 0
theorem S_span {lo hi : Int} (h0 : 0 ≤ lo) (h1 : lo ≤ hi) (n : Nat) : S n (fun i => one (decide (lo ≤ (i : Int)) && decide ((i : Int) < hi))) = min hi n - min lo n := by
  induction n with
  | zero => rw [S]; omega
  | succ n ih =>
    rw [S, ih, one]
    split
    · rename_i h; simp at h; omega
    · rename_i h; simp at h; omega

/-- How many points there are, of those within the edges. -/
def cnt (N : Nat) (f : Int → Int → Bool) : Int := S N fun i => S N fun j => one (f ((i : Int) - 16777216) ((j : Int) - 16777216))
theorem cnt_congr {N : Nat} {f g : Int → Int → Bool} (h : ∀ x y, f x y = g x y) : cnt N f = cnt N g := S_congr fun i _ => S_congr fun j _ => by rw [h]
theorem cnt_two {N : Nat} {f g p q : Int → Int → Bool} (h : ∀ x y, one (f x y) + one (g x y) = one (p x y) + one (q x y)) : cnt N f + cnt N g = cnt N p + cnt N q := by
  unfold cnt
  rw [← S_add, ← S_add]
  refine S_congr fun i _ => ?_
  rw [← S_add, ← S_add]
  exact S_congr fun j _ => h _ _
theorem cnt_none (N : Nat) : cnt N (fun _ _ => false) = 0 := by
  unfold cnt
  rw [S_congr (g' := fun _ => 0) fun i _ => by rw [show (fun _ : Nat => one false) = fun _ => 0 from rfl, S_zero], S_zero]
theorem cnt_rect {N : Nat} (hN : N = 33554432) {r : Rc} (k : Ck r) : cnt N (has r) = r.w * r.h := by
  obtain ⟨k1, k2, k3, k4, k5, k6⟩ := k
  have e : ∀ i j : Nat, one (has r ((i : Int) - 16777216) ((j : Int) - 16777216)) = one (decide (r.y + 16777216 ≤ (j : Int)) && decide ((j : Int) < r.y + 16777216 + r.h)) * one (decide (r.x + 16777216 ≤ (i : Int)) && decide ((i : Int) < r.x + 16777216 + r.w)) := fun i j => by
    have : has r ((i : Int) - 16777216) ((j : Int) - 16777216) = ((decide (r.y + 16777216 ≤ (j : Int)) && decide ((j : Int) < r.y + 16777216 + r.h)) && (decide (r.x + 16777216 ≤ (i : Int)) && decide ((i : Int) < r.x + 16777216 + r.w))) := by
      rw [Bool.eq_iff_iff, has_iff]
      simp only [Bool.and_eq_true, decide_eq_true_eq]
      omega
    rw [this]
    cases (decide (r.y + 16777216 ≤ (j : Int)) && decide ((j : Int) < r.y + 16777216 + r.h)) <;> cases (decide (r.x + 16777216 ≤ (i : Int)) && decide ((i : Int) < r.x + 16777216 + r.w)) <;> rfl
  unfold cnt
  rw [S_congr (g' := fun i => one (decide (r.x + 16777216 ≤ (i : Int)) && decide ((i : Int) < r.x + 16777216 + r.w)) * r.h) fun i _ => by
    rw [S_congr fun j _ => e i j, S_mul, S_span (by omega) (by omega), Int.mul_comm]
    congr 1
    omega]
  rw [S_mul, S_span (by omega) (by omega)]
  congr 1
  omega

def area (l : List Rc) : Int := (l.map fun r => r.w * r.h).sum
theorem area_cons (r : Rc) (l : List Rc) : area (r :: l) = r.w * r.h + area l := by simp [area]
theorem area_cnt {N : Nat} (hN : N = 33554432) : ∀ {l : List Rc}, Bands l → area l = cnt N (pt l)
  | [], _ => by
    rw [show pt [] = fun _ _ => false from rfl, cnt_none]
    rfl
  | r :: l, h => by
    have h' : Bands l := ⟨fun a ha => h.ck a (by simp [ha]), (List.pairwise_cons.1 h.aft).2⟩
    rw [area_cons, area_cnt hN h', ← cnt_rect hN (h.ck r (by simp))]
    have := cnt_two (N := N) (f := has r) (g := pt l) (p := pt (r :: l)) (q := fun _ _ => false) fun x y => by
      rw [pt_cons]
      cases h1 : has r x y
      · cases pt l x y <;> rfl
      · cases h2 : pt l x y
        · rfl
        · obtain ⟨a, ha, h3⟩ := pt_iff.1 h2
          rw [has_iff] at h1 h3
          have h4 := (List.pairwise_cons.1 h.aft).1 a ha
          rcases h4 with ⟨_, _, _⟩ | _ <;> omega
    rw [this, cnt_none, Int.add_zero]
theorem area_low {l : List Rc} (hk : ∀ r ∈ l, Ck r) : 0 ≤ area l ∧ area l ≤ l.length * 1125899906842624 := by
  induction l with
  | nil => exact ⟨Int.le_refl _, Int.le_refl _⟩
  | cons r l ih =>
    have h1 := ih fun a ha => hk a (by simp [ha])
    obtain ⟨k1, k2, k3, k4, k5, k6⟩ := hk r (by simp)
    rw [area_cons, List.length_cons]
    have h2 : r.w * r.h ≤ 33554432 * 33554432 := Int.mul_le_mul (by omega) (by omega) (by omega) (by omega)
    have h3 : 0 ≤ r.w * r.h := Int.mul_nonneg (by omega) (by omega)
    omega

/-- A list without doubles, of members of another one, is not longer. -/
theorem nodup_len {α : Type} [DecidableEq α] : ∀ {l m : List α}, l.Nodup → (∀ a ∈ l, a ∈ m) → l.length ≤ m.length
  | [], _, _, _ => Nat.zero_le _
  | a :: l, m, hn, hs => by
    rw [List.nodup_cons] at hn
    have ha := hs a (by simp)
    have := nodup_len (l := l) (m := m.erase a) hn.2 fun b hb => (List.mem_erase_of_ne (fun e => hn.1 (by rw [← e]; exact hb))).2 (hs b (by simp [hb]))
    rw [List.length_erase_of_mem ha] at this
    have := List.length_pos_of_mem ha
    rw [List.length_cons]
    omega
theorem grid_len {X Y : List Int} {l : List Rc} (h : Bands l) (g : Grid X Y l) : l.length ≤ X.length * Y.length := by
  have h1 : (l.map fun r => (r.x, r.y)).Nodup := by
    rw [List.nodup_iff_pairwise_ne, List.pairwise_map]
    refine h.aft.imp_of_mem fun {a b} ha hb hr e => ?_
    have k1 := (h.ck a ha).w
    have k2 := (h.ck a ha).h
    simp only [Prod.mk.injEq] at e
    rcases hr with ⟨_, _, _⟩ | _ <;> omega
  have h2 := nodup_len (m := X.flatMap fun x => Y.map fun y => (x, y)) h1 fun p hp => by
    obtain ⟨r, hr, rfl⟩ := List.mem_map.1 hp
    obtain ⟨g1, _, g3, _⟩ := g.all r hr
    exact List.mem_flatMap.2 ⟨r.x, g1, List.mem_map.2 ⟨r.y, g3, rfl⟩⟩
  rw [List.length_map] at h2
  refine Nat.le_trans h2 (Nat.le_of_eq ?_)
  clear h1 h2 g h
  induction X with
  | nil => simp
  | cons x X ih => rw [List.flatMap_cons, List.length_append, List.length_map, ih, List.length_cons, Nat.add_mul]; omega
theorem Grid.mono {X Y X' Y' : List Int} {l : List Rc} (g : Grid X Y l) (hX : ∀ x ∈ X, x ∈ X') (hY : ∀ y ∈ Y, y ∈ Y') : Grid X' Y' l := ⟨fun r hr => by
  obtain ⟨h1, h2, h3, h4⟩ := g.all r hr
  exact ⟨hX _ h1, hX _ h2, hY _ h3, hY _ h4⟩⟩
theorem Grid.append {X Y : List Int} {a b : List Rc} (ga : Grid X Y a) (gb : Grid X Y b) : Grid X Y (a ++ b) := ⟨fun r hr => by
  rcases List.mem_append.1 hr with hr | hr
  · exact ga.all r hr
  · exact gb.all r hr⟩
theorem grid_mk {f : Bool → Bool → Bool} {a b : List Rc} (hf : f false false = false) (ha : ∀ r ∈ a, Ck r) (hb : ∀ r ∈ b, Ck r) {X Y : List Int} (ga : Grid X Y a) (gb : Grid X Y b) : Grid X Y (mk f a b) := by
  refine (mk_all hf ha hb).2.2.mono (fun x hx => ?_) (fun y hy => ?_)
  · obtain ⟨r, hr, h⟩ := xs_mem.1 hx
    obtain ⟨h1, h2, _, _⟩ := (ga.append gb).all r hr
    rcases h with rfl | rfl
    · exact h1
    · exact h2
  · obtain ⟨r, hr, h⟩ := ys_mem.1 hy
    obtain ⟨_, _, h1, h2⟩ := (ga.append gb).all r hr
    rcases h with rfl | rfl
    · exact h1
    · exact h2

/-- A rectangle's region. -/
def ofl (r : Rc) : List Rc := if emp (bnd r) = true then [] else [bnd r]
theorem bnd_cases (r : Rc) : emp (bnd r) = true ∨ Ck (bnd r) := by
  cases he : emp r
  · rw [bnd_full he, oft]
    split
    · exact .inl rfl
    · rename_i h
      unfold ed at h ⊢
      refine .inr ⟨?_, ?_, ?_, ?_, ?_, ?_⟩ <;> simp only <;> (repeat' split at h) <;> (repeat' split) <;> omega
  · rw [bnd_emp he]; exact .inl rfl
theorem reg_nil : Reg [] := ⟨by simp, by simp, by simp⟩
theorem reg_one {r : Rc} (k : Ck r) : Reg [r] := by
  have := k.w
  have := k.h
  refine ⟨by simpa using k, by simp, fun a ha => ⟨r.x, ?_⟩⟩
  simp only [List.mem_singleton] at ha
  subst ha
  have h1 : pt [a] a.x a.y = true := pt_iff.2 ⟨a, by simp, has_iff.2 ⟨by omega, by omega, by omega, by omega, by omega, by omega⟩⟩
  have h2 : pt [a] a.x (a.y - 1) = false := by
    rw [pt_no]
    intro b hb
    simp only [List.mem_singleton] at hb
    subst hb
    cases hh : has b b.x (b.y - 1)
    · rfl
    · rw [has_iff] at hh; omega
  rw [h1, h2]
  decide
theorem ofl_reg (r : Rc) : Reg (ofl r) := by
  unfold ofl
  rcases bnd_cases r with h | h
  · rw [if_pos h]; exact reg_nil
  · rw [if_neg (by rw [h.emp]; decide)]; exact reg_one h
theorem ofl_grid (r : Rc) : Grid [(bnd r).x, (bnd r).x + (bnd r).w] [(bnd r).y, (bnd r).y + (bnd r).h] (ofl r) := ⟨fun a ha => by
  unfold ofl at ha
  split at ha
  · cases ha
  · simp only [List.mem_singleton] at ha
    subst ha
    simp⟩
theorem ofl_length (r : Rc) : (ofl r).length ≤ 1 := by
  unfold ofl
  split <;> simp

def sub (p q : Bool) : Bool := p && !q
/-- The region of a few rectangles. -/
def md (g : Nat → Rc) : Nat → List Rc
  | 0 => []
  | i + 1 => mk (if i % 3 = 2 then sub else or) (md g i) (ofl (g i))
theorem fOf (i : Nat) : (if i % 3 = 2 then sub else or) false false = false := by split <;> rfl
theorem md_reg (g : Nat → Rc) : ∀ i, Reg (md g i)
  | 0 => reg_nil
  | i + 1 => (mk_all (fOf i) (md_reg g i).ck (ofl_reg _).ck).1
theorem md_grid (g : Nat → Rc) : ∀ i, ∃ X Y, Grid X Y (md g i) ∧ X.length = 2 * i ∧ Y.length = 2 * i ∧ (∀ x ∈ X, ∃ j < i, x = (bnd (g j)).x ∨ x = (bnd (g j)).x + (bnd (g j)).w) ∧ (∀ y ∈ Y, ∃ j < i, y = (bnd (g j)).y ∨ y = (bnd (g j)).y + (bnd (g j)).h)
  | 0 => ⟨[], [], ⟨by simp [md]⟩, rfl, rfl, by simp, by simp⟩
  | i + 1 => by
    obtain ⟨X, Y, h, hx, hy, gx, gy⟩ := md_grid g i
    refine ⟨(bnd (g i)).x :: ((bnd (g i)).x + (bnd (g i)).w) :: X, (bnd (g i)).y :: ((bnd (g i)).y + (bnd (g i)).h) :: Y, ?_, by simp [hx]; omega, by simp [hy]; omega, ?_, ?_⟩
    · exact grid_mk (fOf i) (md_reg g i).ck (ofl_reg _).ck (h.mono (fun x hx => by simp [hx]) (fun y hy => by simp [hy])) ((ofl_grid (g i)).mono (fun x hx => by simp at hx ⊢; rcases hx with h | h <;> simp [h]) (fun y hy => by simp at hy ⊢; rcases hy with h | h <;> simp [h]))
    · intro x hx
      rcases List.mem_cons.1 hx with h | hx
      · exact ⟨i, by omega, .inl h⟩
      · rcases List.mem_cons.1 hx with h | hx
        · exact ⟨i, by omega, .inr h⟩
        · obtain ⟨j, hj, h⟩ := gx x hx
          exact ⟨j, by omega, h⟩
    · intro x hx
      rcases List.mem_cons.1 hx with h | hx
      · exact ⟨i, by omega, .inl h⟩
      · rcases List.mem_cons.1 hx with h | hx
        · exact ⟨i, by omega, .inr h⟩
        · obtain ⟨j, hj, h⟩ := gy x hx
          exact ⟨j, by omega, h⟩
theorem md_len (g : Nat → Rc) (i : Nat) (hi : i ≤ 7) : (md g i).length ≤ 196 := by
  obtain ⟨X, Y, h, hx, hy, _, _⟩ := md_grid g i
  refine Nat.le_trans (grid_len (md_reg g i).bands h) ?_
  rw [hx, hy]
  exact Nat.le_trans (Nat.mul_le_mul (show 2 * i ≤ 14 by omega) (show 2 * i ≤ 14 by omega)) (by decide)

/-- Moved, each cut to the field, those that have points. -/
def shl (l : List Rc) (u v : Int) : List Rc := (l.map fun r => bnd (sh r u v)).filter fun r => !emp r
theorem bnd_sh {r : Rc} (k : Ck r) (u v : Int) (h : emp (bnd (sh r u v)) = false) : bnd (sh r u v) = ⟨max (r.x + u) (-16777216), max (r.y + v) (-16777216), min (r.x + u + r.w) 16777216 - max (r.x + u) (-16777216), min (r.y + v + r.h) 16777216 - max (r.y + v) (-16777216)⟩ := by
  have e : sh r u v = ⟨r.x + u, r.y + v, r.w, r.h⟩ := by rw [sh, if_neg (by rw [k.emp]; decide)]
  have he : emp (sh r u v) = false := by rw [e]; exact k.emp
  rw [bnd_full he] at h ⊢
  rw [oft] at h ⊢
  split
  · rename_i hh
    rw [if_pos hh] at h
    cases h
  · rw [e]
    simp only [ed]
    have e1 : ∀ a : Int, (if a ≤ 16777216 then a else 16777216) = min a 16777216 := fun a => by split <;> omega
    rw [e1, e1]
theorem shl_bands {l : List Rc} (h : Bands l) (u v : Int) : Bands (shl l u v) := by
  refine ⟨fun r hr => ?_, ?_⟩
  · obtain ⟨h1, h2⟩ := List.mem_filter.1 hr
    obtain ⟨a, ha, rfl⟩ := List.mem_map.1 h1
    rcases bnd_cases (sh a u v) with h3 | h3
    · rw [h3] at h2; cases h2
    · exact h3
  · have h1 : (l.map fun r => bnd (sh r u v)).Pairwise fun s s' => emp s = false → emp s' = false → Aft s s' := by
      rw [List.pairwise_map]
      refine h.aft.imp_of_mem fun {a b} ha hb hr e1 e2 => ?_
      rw [bnd_sh (h.ck a ha) u v e1, bnd_sh (h.ck b hb) u v e2]
      rcases hr with ⟨g1, g2, g3⟩ | g1
      · exact .inl ⟨by simp only; omega, by simp only; omega, by simp only; omega⟩
      · exact .inr (by simp only; omega)
    rw [shl]
    refine (h1.filter _).imp_of_mem fun {a b} ha hb hr => ?_
    have g1 := (List.mem_filter.1 ha).2
    have g2 := (List.mem_filter.1 hb).2
    exact hr (by simpa using g1) (by simpa using g2)
theorem shl_length (l : List Rc) (u v : Int) : (shl l u v).length ≤ l.length := by
  rw [shl]
  exact Nat.le_trans (List.length_filter_le _ _) (by rw [List.length_map]; exact Nat.le_refl _)
def fst1 (p _q : Bool) : Bool := p
theorem mk_alone {a : List Rc} (ha : ∀ r ∈ a, Ck r) : mk fst1 a [] = mk or a [] := by
  obtain ⟨h1, h2, _⟩ := mk_all (f := or) (a := a) (b := []) rfl ha (by simp)
  obtain ⟨h3, h4, _⟩ := mk_all (f := fst1) (a := a) (b := []) rfl ha (by simp)
  exact reg_eq h3 h1 fun x y => by rw [h2, h4, pt_nil, Bool.or_false]; rfl

/-- Moved, where nothing is cut. -/
def tr (u v : Int) (r : Rc) : Rc := ⟨r.x + u, r.y + v, r.w, r.h⟩
theorem shl_tr {l : List Rc} (hk : ∀ r ∈ l, Ck r) {u v : Int} (hk' : ∀ r ∈ l, Ck (tr u v r)) : shl l u v = l.map (tr u v) := by
  have e : ∀ r ∈ l, bnd (sh r u v) = tr u v r := fun r hr => by
    have e0 : sh r u v = tr u v r := by rw [sh, if_neg (by rw [(hk r hr).emp]; decide)]; rfl
    have k := hk' r hr
    have he : emp (tr u v r) = false := k.emp
    obtain ⟨k1, k2, k3, k4, k5, k6⟩ := k
    rw [e0, bnd_full he]
    simp only [tr] at k1 k2 k3 k4 k5 k6 ⊢
    rw [oft, if_neg (by unfold ed; (repeat' split) <;> omega)]
    unfold ed
    rw [if_pos (by omega), if_pos (by omega)]
    simp only [Rc.mk.injEq]
    omega
  rw [shl, List.map_congr_left e, filter_whole]
  intro a ha
  obtain ⟨r, hr, rfl⟩ := List.mem_map.1 ha
  rw [(hk' r hr).emp]
  rfl
theorem pt_tr (l : List Rc) (u v x y : Int) : pt (l.map (tr u v)) x y = pt l (x - u) (y - v) := by
  rw [Bool.eq_iff_iff, pt_iff, pt_iff]
  constructor
  · rintro ⟨a, ha, h⟩
    obtain ⟨r, hr, rfl⟩ := List.mem_map.1 ha
    rw [has_iff] at h
    simp only [tr] at h
    exact ⟨r, hr, has_iff.2 (by omega)⟩
  · rintro ⟨r, hr, h⟩
    rw [has_iff] at h
    exact ⟨_, List.mem_map.2 ⟨r, hr, rfl⟩, has_iff.2 (by simp only [tr]; omega)⟩
theorem reg_tr {l : List Rc} (h : Reg l) {u v : Int} (hk' : ∀ r ∈ l, Ck (tr u v r)) : Reg (l.map (tr u v)) := by
  refine ⟨fun a ha => ?_, ?_, fun a ha => ?_⟩
  · obtain ⟨r, hr, rfl⟩ := List.mem_map.1 ha
    exact hk' r hr
  · rw [List.pairwise_map]
    refine h.aft.imp fun {a b} hr => ?_
    rcases hr with ⟨g1, g2, g3⟩ | g1
    · exact .inl ⟨by simp only [tr]; omega, by simp only [tr]; omega, by simp only [tr]; omega⟩
    · exact .inr (by simp only [tr]; omega)
  · obtain ⟨r, hr, rfl⟩ := List.mem_map.1 ha
    obtain ⟨x, hx⟩ := h.top r hr
    refine ⟨x + u, ?_⟩
    rw [pt_tr, pt_tr]
    simp only [tr]
    rw [show x + u - u = x by omega, show r.y + v - 1 - v = r.y - 1 by omega, show r.y + v - v = r.y by omega]
    exact hx
/-- A region, moved where nothing is cut. -/
theorem mk_tr {l : List Rc} (h : Reg l) {u v : Int} (hk' : ∀ r ∈ l, Ck (tr u v r)) : mk or (shl l u v) [] = l.map (tr u v) := by
  rw [shl_tr h.ck hk']
  exact (mk_reg (reg_tr h hk').ck).2 (reg_tr h hk')
theorem area_tr (l : List Rc) (u v : Int) : area (l.map (tr u v)) = area l := by
  rw [area, area, List.map_map]
  rfl

end Go.Proofs.Ytlkodgmnhphfcaa
