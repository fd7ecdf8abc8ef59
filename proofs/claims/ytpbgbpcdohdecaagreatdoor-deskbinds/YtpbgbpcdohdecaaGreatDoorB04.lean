/- Lemmas that the proof leans on. -/
import Derived.Test.YtpbgbpcdohdecaaGreatDoorB03
namespace Go.Proofs.YtpbgbpcdohdecaaGreatDoor
open Go Go.RowKit
section
def addE_RgnC : List Int → Int → List Int
 | [], v => [v]
 | k :: t, v => if v < k then v :: k :: t else if v = k then k :: t else k :: addE_RgnC t v
theorem addE_mem {v : Int} : ∀ {l : List Int} {x : Int}, x ∈ addE_RgnC l v ↔ x = v ∨ x ∈ l
 | [], x => by simp [addE_RgnC]
 | k :: t, x => by
  rw [addE_RgnC]
  split
  ·simp
  ·split
   ·rename_i h; subst h; simp
   ·rw [List.mem_cons, addE_mem, List.mem_cons]
    constructor
    ·rintro (h | h | h) <;> simp [h]
    ·rintro (h | h | h) <;> simp [h]
theorem addE_rise {v : Int} : ∀ {l : List Int}, l.Pairwise (· < ·) → (addE_RgnC l v).Pairwise (· < ·)
 | [], _ => by simp [addE_RgnC]
 | k :: t, h => by
  rw [addE_RgnC]
  split
  ·rename_i h1
   rw [List.pairwise_cons]
   refine ⟨fun x hx => ?_, h⟩
   rcases List.mem_cons.1 hx with rfl | hx
   ·exact h1
   ·have := (List.pairwise_cons.1 h).1 x hx; omega
  ·split
   ·exact h
   ·rw [List.pairwise_cons] at h ⊢
    refine ⟨fun x hx => ?_, addE_rise h.2⟩
    rcases addE_mem.1 hx with rfl | hx
    ·omega
    ·exact h.1 x hx
theorem addE_length {v : Int} : ∀ {l : List Int}, (addE_RgnC l v).length ≤ l.length + 1
 | [] => by simp [addE_RgnC]
 | k :: t => by
  rw [addE_RgnC]
  split
  ·simp
  ·split
   ·simp
   ·have := addE_length (v := v) (l := t); simp only [List.length_cons]; omega
def xsOf (l : List Rc) : List Int := l.foldl (fun s r => addE_RgnC (addE_RgnC s r.x) (r.x + r.w)) []
def ysOf (l : List Rc) : List Int := l.foldl (fun s r => addE_RgnC (addE_RgnC s r.y) (r.y + r.h)) []
theorem foldE {f g : Rc → Int} (l : List Rc) : ∀ (s : List Int), s.Pairwise (· < ·) → ((l.foldl (fun s r => addE_RgnC (addE_RgnC s (f r)) (g r)) s).Pairwise (· < ·) ∧ (∀ x, x ∈ l.foldl (fun s r => addE_RgnC (addE_RgnC s (f r)) (g r)) s ↔ x ∈ s ∨ ∃ r ∈ l, x = f r ∨ x = g r) ∧ (l.foldl (fun s r => addE_RgnC (addE_RgnC s (f r)) (g r)) s).length ≤ s.length + 2 * l.length) := by
 induction l with
 | nil => intro s h; exact ⟨h, fun x => by simp, by simp⟩
 | cons a l ih =>
  intro s h
  rw [List.foldl_cons]
  obtain ⟨h1, h2, h3⟩ := ih _ (addE_rise (v := g a) (addE_rise (v := f a) h))
  refine ⟨h1, fun x => ?_, ?_⟩
  ·rw [h2 x, addE_mem, addE_mem]
   constructor
   ·rintro ((h | h | h) | ⟨r, hr, h⟩)
    ·exact .inr ⟨a, by simp, .inr h⟩
    ·exact .inr ⟨a, by simp, .inl h⟩
    ·exact .inl h
    ·exact .inr ⟨r, by simp [hr], h⟩
   ·rintro (h | ⟨r, hr, h⟩)
    ·exact .inl (.inr (.inr h))
    ·rcases List.mem_cons.1 hr with rfl | hr
     ·rcases h with h | h
      ·exact .inl (.inr (.inl h))
      ·exact .inl (.inl h)
     ·exact .inr ⟨r, hr, h⟩
  ·have e1 := addE_length (l := s) (v := f a)
   have e2 := addE_length (l := addE_RgnC s (f a)) (v := g a)
   rw [List.length_cons]
   omega
theorem xs_rise (l : List Rc) : (xsOf l).Pairwise (· < ·) := (foldE l [] (by simp)).1
theorem ys_rise (l : List Rc) : (ysOf l).Pairwise (· < ·) := (foldE l [] (by simp)).1
theorem xs_mem {l : List Rc} {x : Int} : x ∈ xsOf l ↔ ∃ r ∈ l, x = r.x ∨ x = r.x + r.w := by
 have := (foldE (f := fun r => r.x) (g := fun r => r.x + r.w) l [] (by simp)).2.1 x
 simpa [xsOf] using this
theorem ys_mem {l : List Rc} {y : Int} : y ∈ ysOf l ↔ ∃ r ∈ l, y = r.y ∨ y = r.y + r.h := by
 have := (foldE (f := fun r => r.y) (g := fun r => r.y + r.h) l [] (by simp)).2.1 y
 simpa [ysOf] using this
theorem xs_length (l : List Rc) : (xsOf l).length ≤ 2 * l.length := by
 have := (foldE (f := fun r => r.x) (g := fun r => r.x + r.w) l [] (by simp)).2.2
 simpa [xsOf] using this
theorem ys_length (l : List Rc) : (ysOf l).length ≤ 2 * l.length := by
 have := (foldE (f := fun r => r.y) (g := fun r => r.y + r.h) l [] (by simp)).2.2
 simpa [ysOf] using this
def chg (F : Int → Bool) (p : Bool) : List Int → List Int
 | [] => []
 | x :: t => if F x = p then chg F p t else x :: chg F (F x) t
theorem chg_sub (F : Int → Bool) : ∀ (l : List Int) (p : Bool), (chg F p l).Sublist l
 | [], _ => by simp [chg]
 | x :: t, p => by
  rw [chg]
  split
  ·exact (chg_sub F t p).cons x
  ·exact (chg_sub F t (F x)).cons_cons x
theorem chg_par {F : Int → Bool} {X : List Int} (hF : ∀ z z', z ≤ z' → (∀ x ∈ X, ¬ (z < x ∧ x ≤ z')) → F z = F z') : ∀ (xs : List Int) (x0 : Int), xs.Pairwise (· < ·) → (∀ x ∈ xs, x0 < x) → (∀ x ∈ X, x ≤ x0 ∨ x ∈ xs) → ∀ z, x0 ≤ z → par (chg F (F x0) xs) z = (F x0 ^^ F z)
 | [], x0, _, _, hX, z, hz => by
  rw [chg, par, hF x0 z hz fun x hx h => by
   rcases hX x hx with h' | h'
   ·omega
   ·cases h']
  cases F z <;> rfl
 | x :: t, x0, hp, h0, hX, z, hz => by
  have hp' := List.pairwise_cons.1 hp
  rcases Int.lt_or_le z x with h | h
  ·rw [par_below fun k hk => by
    have hk' := (chg_sub F (x :: t) (F x0)).mem hk
    rcases List.mem_cons.1 hk' with rfl | hk'
    ·exact h
    ·have := hp'.1 k hk'; omega]
   rw [hF x0 z hz fun k hk hh => by
    rcases hX k hk with h' | h'
    ·omega
    ·rcases List.mem_cons.1 h' with rfl | h'
     ·omega
     ·have := hp'.1 k h'; omega]
   cases F z <;> rfl
  ·have ih := chg_par hF t x hp'.2 hp'.1 (fun k hk => by
    rcases hX k hk with h' | h'
    ·have := h0 x (by simp); exact .inl (by omega)
    ·rcases List.mem_cons.1 h' with rfl | h'
     ·exact .inl (Int.le_refl _)
     ·exact .inr h') z h
   rw [chg]
   split
   ·rename_i e
    rw [e] at ih
    exact ih
   ·rename_i e
    rw [par, ih, decide_eq_true h]
    revert e
    cases F x <;> cases F x0 <;> cases F z <;> simp
def lin (f : Bool → Bool → Bool) (a b : List Rc) (y : Int) : List Int := chg (fun x => f (pt a x y) (pt b x y)) false (xsOf (a ++ b))
def mk (f : Bool → Bool → Bool) (a b : List Rc) : List Rc := fin (lin f a b) (-16777217) [] (ysOf (a ++ b))
theorem pt_turn {l X : List Rc} (hs : ∀ r ∈ l, r ∈ X) (y : Int) {z z' : Int} (hz : z ≤ z') (h : ∀ x ∈ xsOf X, ¬ (z < x ∧ x ≤ z')) : pt l z y = pt l z' y := by
 rw [Bool.eq_iff_iff, pt_iff, pt_iff]
 have key : ∀ r ∈ l, has r z y = has r z' y := fun r hr => by
  have h1 := h r.x (xs_mem.2 ⟨r, hs r hr, .inl rfl⟩)
  have h2 := h (r.x + r.w) (xs_mem.2 ⟨r, hs r hr, .inr rfl⟩)
  rw [Bool.eq_iff_iff, has_iff, has_iff]
  omega
 exact ⟨fun ⟨r, hr, hh⟩ => ⟨r, hr, by rw [← key r hr]; exact hh⟩, fun ⟨r, hr, hh⟩ => ⟨r, hr, by rw [key r hr]; exact hh⟩⟩
theorem pt_turnY {l X : List Rc} (hs : ∀ r ∈ l, r ∈ X) (x : Int) {z z' : Int} (hz : z ≤ z') (h : ∀ y ∈ ysOf X, ¬ (z < y ∧ y ≤ z')) : pt l x z = pt l x z' := by
 rw [Bool.eq_iff_iff, pt_iff, pt_iff]
 have key : ∀ r ∈ l, has r x z = has r x z' := fun r hr => by
  have h1 := h r.y (ys_mem.2 ⟨r, hs r hr, .inl rfl⟩)
  have h2 := h (r.y + r.h) (ys_mem.2 ⟨r, hs r hr, .inr rfl⟩)
  rw [Bool.eq_iff_iff, has_iff, has_iff]
  omega
 exact ⟨fun ⟨r, hr, hh⟩ => ⟨r, hr, by rw [← key r hr]; exact hh⟩, fun ⟨r, hr, hh⟩ => ⟨r, hr, by rw [key r hr]; exact hh⟩⟩
theorem pt_out {l : List Rc} (hk : ∀ r ∈ l, Ck r) {x y : Int} (h : x < -16777216 ∨ 16777216 ≤ x ∨ y < -16777216 ∨ 16777216 ≤ y) : pt l x y = false := by
 rw [pt_no]
 intro r hr
 have k := hk r hr
 obtain ⟨k1, k2, k3, k4, k5, k6⟩ := k
 cases hh : has r x y
 ·rfl
 ·rw [has_iff] at hh; omega
section
variable {f : Bool → Bool → Bool} {a b : List Rc}
theorem lin_par (hf : f false false = false) (ha : ∀ r ∈ a, Ck r) (hb : ∀ r ∈ b, Ck r) (y x : Int) : par (lin f a b y) x = f (pt a x y) (pt b x y) := by
 have hF : ∀ z z', z ≤ z' → (∀ x ∈ xsOf (a ++ b), ¬ (z < x ∧ x ≤ z')) → (fun x => f (pt a x y) (pt b x y)) z = (fun x => f (pt a x y) (pt b x y)) z' := fun z z' hz h => by
  show f (pt a z y) (pt b z y) = f (pt a z' y) (pt b z' y)
  rw [pt_turn (l := a) (X := a ++ b) (fun r hr => by simp [hr]) y hz h, pt_turn (l := b) (X := a ++ b) (fun r hr => by simp [hr]) y hz h]
 have h0 : ∀ z, z < -16777216 → (fun x => f (pt a x y) (pt b x y)) z = false := fun z hz => by
  show f (pt a z y) (pt b z y) = false
  rw [pt_out ha (.inl hz), pt_out hb (.inl hz), hf]
 have hx : ∀ x ∈ xsOf (a ++ b), -16777217 < x := fun x hx => by
  obtain ⟨r, hr, h⟩ := xs_mem.1 hx
  have k : Ck r := by
   rcases List.mem_append.1 hr with hr | hr
   ·exact ha r hr
   ·exact hb r hr
  obtain ⟨k1, k2, k3, k4, k5, k6⟩ := k
  omega
 rcases Int.lt_or_le x (-16777217) with h | h
 ·rw [par_below fun k hk => by have := hx k ((chg_sub _ _ _).mem hk); omega]
  exact (h0 x (by omega)).symm
 ·have := chg_par hF (xsOf (a ++ b)) (-16777217) (xs_rise _) hx (fun x hx => .inr hx) x h
  have e0 : f (pt a (-16777217) y) (pt b (-16777217) y) = false := h0 (-16777217) (by omega)
  rw [e0] at this
  rw [lin, this]
  simp
theorem lin_mem {y x : Int} (h : x ∈ lin f a b y) : x ∈ xsOf (a ++ b) := (chg_sub _ _ _).mem h
theorem xs_in (ha : ∀ r ∈ a, Ck r) {x : Int} (h : x ∈ xsOf a) : -16777216 ≤ x ∧ x ≤ 16777216 := by
 obtain ⟨r, hr, h⟩ := xs_mem.1 h
 obtain ⟨k1, k2, k3, k4, k5, k6⟩ := ha r hr
 omega
theorem ys_in (ha : ∀ r ∈ a, Ck r) {x : Int} (h : x ∈ ysOf a) : -16777216 ≤ x ∧ x ≤ 16777216 := by
 obtain ⟨r, hr, h⟩ := ys_mem.1 h
 obtain ⟨k1, k2, k3, k4, k5, k6⟩ := ha r hr
 omega
theorem ck_both (ha : ∀ r ∈ a, Ck r) (hb : ∀ r ∈ b, Ck r) : ∀ r ∈ a ++ b, Ck r := fun r hr => by
 rcases List.mem_append.1 hr with hr | hr
 ·exact ha r hr
 ·exact hb r hr
theorem lin_edges (hf : f false false = false) (ha : ∀ r ∈ a, Ck r) (hb : ∀ r ∈ b, Ck r) : Edges (lin f a b) := by
 refine ⟨fun z => (xs_rise (a ++ b)).sublist (chg_sub _ _ _), fun z => ?_⟩
 have h1 := lin_par hf ha hb z 16777216
 rw [pt_out ha (.inr (.inl (by omega))), pt_out hb (.inr (.inl (by omega))), hf, par_above fun k hk => (xs_in (ck_both ha hb) (lin_mem hk)).2] at h1
 have := of_decide_eq_false h1
 omega
theorem lin_none (hf : f false false = false) (ha : ∀ r ∈ a, Ck r) (hb : ∀ r ∈ b, Ck r) {z : Int} (hz : ∀ x, pt a x z = false ∧ pt b x z = false) : lin f a b z = [] :=
 par_eq ((lin_edges hf ha hb).rise z) (by simp) fun x => by rw [lin_par hf ha hb, (hz x).1, (hz x).2, hf]; rfl
theorem turns_of {E : Int → List Int} {Y : List Int} (hc : ∀ z z', z ≤ z' → (∀ y ∈ Y, ¬ (z < y ∧ y ≤ z')) → E z = E z') (he : ∀ z, (∀ y ∈ Y, y ≤ z) → E z = []) : ∀ (ys : List Int) (y0 : Int), ys.Pairwise (· < ·) → (∀ y ∈ ys, y0 < y) → (∀ y ∈ Y, y ≤ y0 ∨ y ∈ ys) → Turns E y0 (E y0) ys
 | [], y0, _, _, h => fun z hz => he z fun y hy => by
  rcases h y hy with h | h
  ·omega
  ·cases h
 | a :: t, y0, hp, h0, h => by
  have hp' := List.pairwise_cons.1 hp
  have ha := h0 a (by simp)
  refine ⟨ha, fun z h1 h2 => (hc y0 z h1 fun y hy hh => ?_).symm, turns_of hc he t a hp'.2 hp'.1 fun y hy => ?_⟩
  ·rcases h y hy with h' | h'
   ·omega
   ·rcases List.mem_cons.1 h' with rfl | h'
    ·omega
    ·have := hp'.1 y h'; omega
  ·rcases h y hy with h' | h'
   ·exact .inl (by omega)
   ·rcases List.mem_cons.1 h' with rfl | h'
    ·exact .inl (Int.le_refl _)
    ·exact .inr h'
theorem lin_turns (hf : f false false = false) (ha : ∀ r ∈ a, Ck r) (hb : ∀ r ∈ b, Ck r) : Turns (lin f a b) (-16777217) [] (ysOf (a ++ b)) := by
 have e0 : lin f a b (-16777217) = [] := lin_none hf ha hb fun x => ⟨pt_out ha (by omega), pt_out hb (by omega)⟩
 have := turns_of (E := lin f a b) (Y := ysOf (a ++ b)) (fun z z' hz h => ?_) (fun z h => ?_) (ysOf (a ++ b)) (-16777217) (ys_rise _) (fun y hy => by have := (ys_in (ck_both ha hb) hy).1; omega) (fun y hy => .inr hy)
 ·rw [e0] at this
  exact this
 ·refine par_eq ((lin_edges hf ha hb).rise z) ((lin_edges hf ha hb).rise z') fun x => ?_
  rw [lin_par hf ha hb, lin_par hf ha hb, pt_turnY (l := a) (X := a ++ b) (fun r hr => by simp [hr]) x hz h, pt_turnY (l := b) (X := a ++ b) (fun r hr => by simp [hr]) x hz h]
 ·have key : ∀ l : List Rc, (∀ r ∈ l, r ∈ a ++ b) → ∀ x, pt l x z = false := fun l hl x => by
   rw [pt_no]
   intro r hr
   have := h _ (ys_mem.2 ⟨r, hl r hr, .inr rfl⟩)
   cases hh : has r x z
   ·rfl
   ·rw [has_iff] at hh; omega
  exact lin_none hf ha hb fun x => ⟨key a (fun r hr => by simp [hr]) x, key b (fun r hr => by simp [hr]) x⟩
structure Grid (X Y : List Int) (l : List Rc) : Prop where
 all : ∀ r ∈ l, r.x ∈ X ∧ r.x + r.w ∈ X ∧ r.y ∈ Y ∧ r.y + r.h ∈ Y
theorem mk_all (hf : f false false = false) (ha : ∀ r ∈ a, Ck r) (hb : ∀ r ∈ b, Ck r) : Reg (mk f a b) ∧ (∀ x y, pt (mk f a b) x y = f (pt a x y) (pt b x y)) ∧ Grid (xsOf (a ++ b)) (ysOf (a ++ b)) (mk f a b) := by
 obtain ⟨h1, h2, h3⟩ := fin_reg (lin_edges hf ha hb) (ys := ysOf (a ++ b)) (y0 := -16777217) (fun z hz => lin_none hf ha hb fun x => ⟨pt_out ha (by omega), pt_out hb (by omega)⟩) (lin_turns hf ha hb) (fun z k hk => xs_in (ck_both ha hb) (lin_mem hk)) (fun y hy => ys_in (ck_both ha hb) hy)
 exact ⟨h1, fun x y => by rw [mk, h2, lin_par hf ha hb], ⟨fun r hr => by
  obtain ⟨g1, g2, g3, g4⟩ := h3 r hr
  exact ⟨lin_mem g1, lin_mem g2, g3, g4⟩⟩⟩
end
end
section
def lies (y : Int) (r : Rc) : Bool := decide (r.y ≤ y) && decide (y < r.y + r.h)
def spans (l : List Rc) : List Int := l.flatMap fun r => [r.x, r.x + r.w]
def rowE (l : List Rc) (y : Int) : List Int := spans (l.filter (lies y))
theorem lies_iff {y : Int} {r : Rc} : lies y r = true ↔ r.y ≤ y ∧ y < r.y + r.h := by simp [lies]
theorem spans_cons (r : Rc) (l : List Rc) : spans (r :: l) = r.x :: (r.x + r.w) :: spans l := rfl
theorem spans_mem {l : List Rc} {x : Int} : x ∈ spans l ↔ ∃ r ∈ l, x = r.x ∨ x = r.x + r.w := by simp [spans]
theorem spans_length (l : List Rc) : (spans l).length = 2 * l.length := by
 induction l with
 | nil => rfl
 | cons r l ih => rw [spans_cons, List.length_cons, List.length_cons, ih, List.length_cons]; omega
theorem spans_rise {l : List Rc} (hp : l.Pairwise fun a b => a.x + a.w < b.x) (hw : ∀ r ∈ l, 1 ≤ r.w) : (spans l).Pairwise (· < ·) := by
 induction l with
 | nil => simp [spans]
 | cons r l ih =>
  rw [List.pairwise_cons] at hp
  have h1 := hw r (by simp)
  have key : ∀ x ∈ spans l, r.x + r.w < x := fun x hx => by
   obtain ⟨a, ha, h⟩ := spans_mem.1 hx
   have := hp.1 a ha
   have := hw a (by simp [ha])
   omega
  rw [spans_cons, List.pairwise_cons, List.pairwise_cons]
  refine ⟨fun x hx => ?_, key, ih hp.2 fun a ha => hw a (by simp [ha])⟩
  rcases List.mem_cons.1 hx with rfl | hx
  ·omega
  ·have := key x hx; omega
theorem spans_par {l : List Rc} (hp : l.Pairwise fun a b => a.x + a.w < b.x) (hw : ∀ r ∈ l, 1 ≤ r.w) (x : Int) : par (spans l) x = l.any fun r => decide (r.x ≤ x) && decide (x < r.x + r.w) := by
 induction l with
 | nil => rfl
 | cons r l ih =>
  have hp' := List.pairwise_cons.1 hp
  have h1 := hw r (by simp)
  rw [spans_cons, par, par, ih hp'.2 fun a ha => hw a (by simp [ha]), List.any_cons]
  by_cases ha : r.x ≤ x
  ·by_cases hb : r.x + r.w ≤ x
   ·rw [decide_eq_true ha, decide_eq_true hb, decide_eq_false (show ¬ x < r.x + r.w by omega)]
    simp
   ·have : (l.any fun r => decide (r.x ≤ x) && decide (x < r.x + r.w)) = false := by
     rw [List.any_eq_false]
     intro a ha'
     have := hp'.1 a ha'
     simp
     omega
    rw [this, decide_eq_true ha, decide_eq_false hb, decide_eq_true (show x < r.x + r.w by omega)]
    rfl
  ·rw [decide_eq_false ha, decide_eq_false (show ¬ r.x + r.w ≤ x by omega)]
   simp
theorem Bands.row {l : List Rc} (h : Bands l) (y : Int) : (l.filter (lies y)).Pairwise fun a b => a.x + a.w < b.x := by
 refine (h.aft.filter _).imp_of_mem fun {a b} ha hb hr => ?_
 have h1 := lies_iff.1 (List.mem_filter.1 ha).2
 have h2 := lies_iff.1 (List.mem_filter.1 hb).2
 rcases hr with ⟨_, _, h3⟩ | h3
 ·exact h3
 ·omega
theorem Bands.rowW {l : List Rc} (h : Bands l) (y : Int) : ∀ r ∈ l.filter (lies y), 1 ≤ r.w := fun r hr => (h.ck r (List.mem_filter.1 hr).1).w
theorem rowE_rise {l : List Rc} (h : Bands l) (y : Int) : (rowE l y).Pairwise (· < ·) := spans_rise (h.row y) (h.rowW y)
theorem rowE_par {l : List Rc} (h : Bands l) (y x : Int) : par (rowE l y) x = pt l x y := by
 rw [rowE, spans_par (h.row y) (h.rowW y), pt, Bool.eq_iff_iff, List.any_eq_true, List.any_eq_true]
 constructor
 ·rintro ⟨r, hr, hh⟩
  have h1 := List.mem_filter.1 hr
  have h2 := lies_iff.1 h1.2
  have k := h.ck r h1.1
  have k1 := k.w
  have k2 := k.h
  simp only [Bool.and_eq_true, decide_eq_true_eq] at hh
  exact ⟨r, h1.1, has_iff.2 ⟨k1, k2, hh.1, hh.2, h2.1, h2.2⟩⟩
 ·rintro ⟨r, hr, hh⟩
  rw [has_iff] at hh
  exact ⟨r, List.mem_filter.2 ⟨hr, lies_iff.2 ⟨hh.2.2.2.2.1, hh.2.2.2.2.2⟩⟩, by simp; omega⟩
theorem rowE_length (l : List Rc) (y : Int) : (rowE l y).length ≤ 2 * l.length := by
 rw [rowE, spans_length]
 have := List.length_filter_le (lies y) l
 omega
def mix (f : Bool → Bool → Bool) (pa pb po : Bool) (a b : List Int) : List Int :=
 match a, b with
 | [], [] => []
 | x :: a, [] => if f (!pa) pb = po then mix f (!pa) pb po a [] else x :: mix f (!pa) pb (!po) a []
 | [], y :: b => if f pa (!pb) = po then mix f pa (!pb) po [] b else y :: mix f pa (!pb) (!po) [] b
 | x :: a, y :: b =>
  if x < y then (if f (!pa) pb = po then mix f (!pa) pb po a (y :: b) else x :: mix f (!pa) pb (!po) a (y :: b))
  else if y < x then (if f pa (!pb) = po then mix f pa (!pb) po (x :: a) b else y :: mix f pa (!pb) (!po) (x :: a) b)
  else (if f (!pa) (!pb) = po then mix f (!pa) (!pb) po a b else x :: mix f (!pa) (!pb) (!po) a b)
 termination_by a.length + b.length
structure Mixes (f : Bool → Bool → Bool) (pa pb po : Bool) (a b m : List Int) : Prop where
 mem : ∀ x ∈ m, x ∈ a ∨ x ∈ b
 rise : m.Pairwise (· < ·)
 par : ∀ z, (po ^^ par m z) = f (pa ^^ par a z) (pb ^^ par b z)
theorem mixes_step {f : Bool → Bool → Bool} {pa pb po : Bool} {a b : List Int} {x : Int} {pa' pb' : Bool} {a' b' : List Int} {rest : Bool → List Int}
  (ha : ∀ k ∈ a, x ≤ k) (hb : ∀ k ∈ b, x ≤ k) (ha' : ∀ k ∈ a', x < k) (hb' : ∀ k ∈ b', x < k) (sa : ∀ k ∈ a', k ∈ a) (sb : ∀ k ∈ b', k ∈ b) (hx : x ∈ a ∨ x ∈ b)
  (ea : ∀ z, x ≤ z → (pa' ^^ par a' z) = (pa ^^ par a z)) (eb : ∀ z, x ≤ z → (pb' ^^ par b' z) = (pb ^^ par b z)) (hpo : po = f pa pb)
  (ih : ∀ po', po' = f pa' pb' → Mixes f pa' pb' po' a' b' (rest po')) : Mixes f pa pb po a b (if f pa' pb' = po then rest po else x :: rest (!po)) := by
 have low : ∀ {m : List Int}, (∀ k ∈ m, x ≤ k) → ∀ z, z < x → par m z = false := fun hm z hz => par_below fun k hk => by have := hm k hk; omega
 split
 ·rename_i e
  obtain ⟨h1, h2, h3⟩ := ih po e.symm
  refine ⟨fun k hk => ?_, h2, fun z => ?_⟩
  ·rcases h1 k hk with h | h
   ·exact .inl (sa k h)
   ·exact .inr (sb k h)
  ·rcases Int.lt_or_le z x with hz | hz
   ·rw [low ha z hz, low hb z hz, low (m := rest po) (fun k hk => by
     rcases h1 k hk with h | h
     ·have := ha' k h; omega
     ·have := hb' k h; omega) z hz, Bool.xor_false, Bool.xor_false, Bool.xor_false]
    exact hpo
   ·rw [h3 z, ea z hz, eb z hz]
 ·rename_i e
  have e' : (!po) = f pa' pb' := by revert e; cases f pa' pb' <;> cases po <;> simp
  obtain ⟨h1, h2, h3⟩ := ih (!po) e'
  have up : ∀ k ∈ rest (!po), x < k := fun k hk => by
   rcases h1 k hk with h | h
   ·exact ha' k h
   ·exact hb' k h
  refine ⟨fun k hk => ?_, List.pairwise_cons.2 ⟨up, h2⟩, fun z => ?_⟩
  ·rcases List.mem_cons.1 hk with rfl | hk
   ·exact hx
   ·rcases h1 k hk with h | h
    ·exact .inl (sa k h)
    ·exact .inr (sb k h)
  ·rcases Int.lt_or_le z x with hz | hz
   ·rw [low ha z hz, low hb z hz, low (m := x :: rest (!po)) (fun k hk => by
     rcases List.mem_cons.1 hk with rfl | hk
     ·exact Int.le_refl _
     ·have := up k hk; omega) z hz, Bool.xor_false, Bool.xor_false, Bool.xor_false]
    exact hpo
   ·have := h3 z
    rw [ea z hz, eb z hz] at this
    rw [← this, par, decide_eq_true hz]
    cases po <;> cases par (rest _) z <;> rfl
theorem xor_flip {p : Bool} {x z : Int} {t : List Int} (hz : x ≤ z) : ((!p) ^^ par t z) = (p ^^ par (x :: t) z) := by
 rw [par, decide_eq_true hz]
 cases p <;> cases par t z <;> rfl
theorem mix_mixes (f : Bool → Bool → Bool) : ∀ (n : Nat) (pa pb po : Bool) (a b : List Int), a.length + b.length ≤ n → a.Pairwise (· < ·) → b.Pairwise (· < ·) → po = f pa pb → Mixes f pa pb po a b (mix f pa pb po a b) := by
 intro n
 induction n with
 | zero =>
  intro pa pb po a b hn _ _ hpo
  obtain rfl : a = [] := List.eq_nil_of_length_eq_zero (by omega)
  obtain rfl : b = [] := List.eq_nil_of_length_eq_zero (by omega)
  rw [mix]
  exact ⟨fun x hx => (by cases hx), by simp, fun z => by simp [par, hpo]⟩
 | succ n ih =>
  intro pa pb po a b hn ha hb hpo
  match a, b with
  | [], [] =>
   rw [mix]
   exact ⟨fun x hx => (by cases hx), by simp, fun z => by simp [par, hpo]⟩
  | x :: a, [] =>
   have ha' := List.pairwise_cons.1 ha
   rw [mix]
   refine mixes_step (rest := fun po => mix f (!pa) pb po a []) ?_ ?_ ha'.1 ?_ (fun k hk => by simp [hk]) (fun k hk => hk) (by simp) (fun z hz => xor_flip hz) (fun z hz => rfl) hpo fun po' h => ih _ _ _ _ _ (by simp at hn ⊢; omega) ha'.2 hb h
   ·intro k hk
    rcases List.mem_cons.1 hk with rfl | hk
    ·exact Int.le_refl _
    ·have := ha'.1 k hk; omega
   ·intro k hk; cases hk
   ·intro k hk; cases hk
  | [], y :: b =>
   have hb' := List.pairwise_cons.1 hb
   rw [mix]
   refine mixes_step (rest := fun po => mix f pa (!pb) po [] b) ?_ ?_ ?_ hb'.1 (fun k hk => hk) (fun k hk => by simp [hk]) (by simp) (fun z hz => rfl) (fun z hz => xor_flip hz) hpo fun po' h => ih _ _ _ _ _ (by simp at hn ⊢; omega) ha hb'.2 h
   ·intro k hk; cases hk
   ·intro k hk
    rcases List.mem_cons.1 hk with rfl | hk
    ·exact Int.le_refl _
    ·have := hb'.1 k hk; omega
   ·intro k hk; cases hk
  | x :: a, y :: b =>
   have ha' := List.pairwise_cons.1 ha
   have hb' := List.pairwise_cons.1 hb
   have ga : ∀ v, v ≤ x → ∀ k ∈ x :: a, v ≤ k := fun v hv k hk => by
    rcases List.mem_cons.1 hk with rfl | hk
    ·exact hv
    ·have := ha'.1 k hk; omega
   have gb : ∀ v, v ≤ y → ∀ k ∈ y :: b, v ≤ k := fun v hv k hk => by
    rcases List.mem_cons.1 hk with rfl | hk
    ·exact hv
    ·have := hb'.1 k hk; omega
   have sa : ∀ v, v < x → ∀ k ∈ x :: a, v < k := fun v hv k hk => by have := ga x (Int.le_refl _) k hk; omega
   have sb : ∀ v, v < y → ∀ k ∈ y :: b, v < k := fun v hv k hk => by have := gb y (Int.le_refl _) k hk; omega
   rw [mix]
   split
   ·rename_i h1
    exact mixes_step (rest := fun po => mix f (!pa) pb po a (y :: b)) (ga x (Int.le_refl _)) (gb x (by omega)) ha'.1 (sb x h1) (fun k hk => by simp [hk]) (fun k hk => hk) (by simp) (fun z hz => xor_flip hz) (fun z hz => rfl) hpo fun po' h => ih _ _ _ _ _ (by simp at hn ⊢; omega) ha'.2 hb h
   ·split
    ·rename_i h1 h2
     exact mixes_step (rest := fun po => mix f pa (!pb) po (x :: a) b) (ga y (by omega)) (gb y (Int.le_refl _)) (sa y h2) hb'.1 (fun k hk => hk) (fun k hk => by simp [hk]) (by simp) (fun z hz => rfl) (fun z hz => xor_flip hz) hpo fun po' h => ih _ _ _ _ _ (by simp at hn ⊢; omega) ha hb'.2 h
    ·rename_i h1 h2
     obtain rfl : x = y := by omega
     exact mixes_step (rest := fun po => mix f (!pa) (!pb) po a b) (ga x (Int.le_refl _)) (gb x (Int.le_refl _)) ha'.1 hb'.1 (fun k hk => by simp [hk]) (fun k hk => by simp [hk]) (by simp) (fun z hz => xor_flip hz) (fun z hz => xor_flip hz) hpo fun po' h => ih _ _ _ _ _ (by simp at hn ⊢; omega) ha'.2 hb'.2 h
theorem mix_lin {f : Bool → Bool → Bool} {a b : List Rc} (hf : f false false = false) (ha : Bands a) (hb : Bands b) (y : Int) : mix f false false false (rowE a y) (rowE b y) = lin f a b y := by
 have h := mix_mixes f _ false false false (rowE a y) (rowE b y) (Nat.le_refl _) (rowE_rise ha y) (rowE_rise hb y) hf.symm
 refine par_eq h.rise ((lin_edges hf ha.ck hb.ck).rise y) fun x => ?_
 have := h.par x
 rw [Bool.false_xor, Bool.false_xor, Bool.false_xor, rowE_par ha, rowE_par hb] at this
 rw [this, lin_par hf ha.ck hb.ck]
end
section
theorem prs_append {y h : Int} : ∀ {a : List Int} (b : List Int), a.length % 2 = 0 → prs y h (a ++ b) = prs y h a ++ prs y h b
 | [], b, _ => rfl
 | [_], _, h => by simp at h
 | k :: m :: a, b, h2 => by
  rw [List.cons_append, List.cons_append, prs, prs, prs_append b (by simpa [Nat.add_assoc] using h2), List.cons_append]
def rows (E : Int → List Int) : List Int → List Int → List (Int × List Int)
 | _, [] => []
 | e, y :: t => if E y = e then rows E e t else (y, E y) :: rows E (E y) t
def bnds : List (Int × List Int) → List Rc
 | (y, e) :: (y', e') :: t => prs y (y' - y) e ++ bnds ((y', e') :: t)
 | _ => []
theorem rows_fin (E : Int → List Int) : ∀ (ys : List Int) (y0 : Int) (e : List Int), bnds ((y0, e) :: rows E e ys) = fin E y0 e ys
 | [], _, _ => rfl
 | y :: t, y0, e => by
  rw [rows, fin]
  split
  ·exact rows_fin E t y0 e
  ·rw [bnds, rows_fin E t y (E y)]
theorem bnds_start (y0 : Int) (l : List (Int × List Int)) : bnds ((y0, []) :: l) = bnds l := by
 cases l with
 | nil => rfl
 | cons a l => rw [bnds]; rfl
theorem rows_mk {f : Bool → Bool → Bool} {a b : List Rc} (hf : f false false = false) (ha : Bands a) (hb : Bands b) : bnds (rows (fun y => mix f false false false (rowE a y) (rowE b y)) [] (ysOf (a ++ b))) = mk f a b := by
 rw [← bnds_start (-16777217), rows_fin, mk]
 exact fin_congr (fun z => mix_lin hf ha hb z) _ _ _
end
end Go.Proofs.YtpbgbpcdohdecaaGreatDoor
