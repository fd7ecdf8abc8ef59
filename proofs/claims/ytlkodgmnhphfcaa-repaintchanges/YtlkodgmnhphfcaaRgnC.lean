/- What comes of two lists of rectangles, by the edges of all. No program. -/
import Derived.Test.YtlkodgmnhphfcaaRgnA
namespace Go.Proofs.Ytlkodgmnhphfcaa
open Go Go.RowKit

/-- A number put into numbers that rise. -/
def addE : List Int → Int → List Int
  | [], v => [v]
  | k :: t, v => if v < k then v :: k :: t else if v = k then k :: t else k :: addE t v

theorem addE_mem {v : Int} : ∀ {l : List Int} {x : Int}, x ∈ addE l v ↔ x = v ∨ x ∈ l
  | [], x => by simp [addE]
  | k :: t, x => by
    rw [addE]
    split
    · simp
    · split
      · rename_i h; subst h; simp
      · rw [List.mem_cons, addE_mem, List.mem_cons]
        constructor
        · rintro (h | h | h) <;> simp [h]
        · rintro (h | h | h) <;> simp [h]

theorem addE_rise {v : Int} : ∀ {l : List Int}, l.Pairwise (· < ·) → (addE l v).Pairwise (· < ·)
  | [], _ => by simp [addE]
  | k :: t, h => by
    rw [addE]
    split
    · rename_i h1
      rw [List.pairwise_cons]
      refine ⟨fun x hx => ?_, h⟩
      rcases List.mem_cons.1 hx with rfl | hx
      · exact h1
      · have := (List.pairwise_cons.1 h).1 x hx; omega
    · split
      · exact h
      · rw [List.pairwise_cons] at h ⊢
        refine ⟨fun x hx => ?_, addE_rise h.2⟩
        rcases addE_mem.1 hx with rfl | hx
        · omega
        · exact h.1 x hx

theorem addE_length {v : Int} : ∀ {l : List Int}, (addE l v).length ≤ l.length + 1
  | [] => by simp [addE]
  | k :: t => by
    rw [addE]
    split
    · simp
    · split
      · simp
      · have := addE_length (v := v) (l := t); simp only [List.length_cons]; omega

/-- The edges across, and down. -/
def xsOf (l : List Rc) : List Int := l.foldl (fun s r => addE (addE s r.x) (r.x + r.w)) []
def ysOf (l : List Rc) : List Int := l.foldl (fun s r => addE (addE s r.y) (r.y + r.h)) []

theorem foldE {f g : Rc → Int} (l : List Rc) : ∀ (s : List Int), s.Pairwise (· < ·) → ((l.foldl (fun s r => addE (addE s (f r)) (g r)) s).Pairwise (· < ·) ∧ (∀ x, x ∈ l.foldl (fun s r => addE (addE s (f r)) (g r)) s ↔ x ∈ s ∨ ∃ r ∈ l, x = f r ∨ x = g r) ∧ (l.foldl (fun s r => addE (addE s (f r)) (g r)) s).length ≤ s.length + 2 * l.length) := by
  induction l with
  | nil => intro s h; exact ⟨h, fun x => by simp, by simp⟩
  | cons a l ih =>
    intro s h
    rw [List.foldl_cons]
    obtain ⟨h1, h2, h3⟩ := ih _ (addE_rise (v := g a) (addE_rise (v := f a) h))
    refine ⟨h1, fun x => ?_, ?_⟩
    · rw [h2 x, addE_mem, addE_mem]
      constructor
      · rintro ((h | h | h) | ⟨r, hr, h⟩)
        · exact .inr ⟨a, by simp, .inr h⟩
        · exact .inr ⟨a, by simp, .inl h⟩
        · exact .inl h
        · exact .inr ⟨r, by simp [hr], h⟩
      · rintro (h | ⟨r, hr, h⟩)
        · exact .inl (.inr (.inr h))
        · rcases List.mem_cons.1 hr with rfl | hr
          · rcases h with h | h
            · exact .inl (.inr (.inl h))
            · exact .inl (.inl h)
          · exact .inr ⟨r, hr, h⟩
    · have e1 := addE_length (l := s) (v := f a)
      have e2 := addE_length (l := addE s (f a)) (v := g a)
      rw [List.length_cons]
      omega

theorem xs_rise (l : List Rc) : (xsOf l).Pairwise (· < ·) := (foldE l [] (by simp)).1
theorem ys_rise (l : List Rc) : (ysOf l).Pairwise (· < ·) := (foldE l [] (by simp)).1
theorem xs_mem {l : List Rc} {x : Int} : x ∈ xsOf l ↔ ∃ r ∈ l, x = r.x ∨ x = r.x + r.w := by
  have := (foldE (f := fun r => r.x) (g := fun r => r.x + r.w) l [] (by simp)).2.1 x
  simpa [xsOf] using this
theorem ys_mem {l : List Rc} {y : Int} : y ∈ ysOf l ↔ ∃ r ∈ l, y = r.y ∨ y = r.y + r.h := by
  have := (foldE (f := fun r => r.y) (g := fun r => r.y + r.h) l [] (by simp)).2.1 y
  simpa [ysOf] using this
theorem xs_length (l : List Rc) : (xsOf l).length ≤ 2 * l.length := by
  have := (foldE (f := fun r => r.x) (g := fun r => r.x + r.w) l [] (by simp)).2.2
  simpa [xsOf] using this
theorem ys_length (l : List Rc) : (ysOf l).length ≤ 2 * l.length := by
  have := (foldE (f := fun r => r.y) (g := fun r => r.y + r.h) l [] (by simp)).2.2
  simpa [ysOf] using this

/-- Where a truth turns. -/
def chg (F : Int → Bool) (p : Bool) : List Int → List Int
  | [] => []
  | x :: t => if F x = p then chg F p t else x :: chg F (F x) t

theorem chg_sub (F : Int → Bool) : ∀ (l : List Int) (p : Bool), (chg F p l).Sublist l
  | [], _ => by simp [chg]
  | x :: t, p => by
    rw [chg]
    split
    · exact (chg_sub F t p).cons x
    · exact (chg_sub F t (F x)).cons_cons x

/-- A truth that turns at these alone. -/
theorem chg_par {F : Int → Bool} {X : List Int} (hF : ∀ z z', z ≤ z' → (∀ x ∈ X, ¬ (z < x ∧ x ≤ z')) → F z = F z') : ∀ (xs : List Int) (x0 : Int), xs.Pairwise (· < ·) → (∀ x ∈ xs, x0 < x) → (∀ x ∈ X, x ≤ x0 ∨ x ∈ xs) → ∀ z, x0 ≤ z → par (chg F (F x0) xs) z = (F x0 ^^ F z)
  | [], x0, _, _, hX, z, hz => by
    rw [chg, par, hF x0 z hz fun x hx h => by
      rcases hX x hx with h' | h'
      · omega
      · cases h']
    cases F z <;> rfl
  | x :: t, x0, hp, h0, hX, z, hz => by
    have hp' := List.pairwise_cons.1 hp
    rcases Int.lt_or_le z x with h | h
    · rw [par_below fun k hk => by
        have hk' := (chg_sub F (x :: t) (F x0)).mem hk
        rcases List.mem_cons.1 hk' with rfl | hk'
        · exact h
        · have := hp'.1 k hk'; omega]
      rw [hF x0 z hz fun k hk hh => by
        rcases hX k hk with h' | h'
        · omega
        · rcases List.mem_cons.1 h' with rfl | h'
          · omega
          · have := hp'.1 k h'; omega]
      cases F z <;> rfl
    · have ih := chg_par hF t x hp'.2 hp'.1 (fun k hk => by
        rcases hX k hk with h' | h'
        · have := h0 x (by simp); exact .inl (by omega)
        · rcases List.mem_cons.1 h' with rfl | h'
          · exact .inl (Int.le_refl _)
          · exact .inr h') z h
      rw [chg]
      split
      · rename_i e
        rw [e] at ih
        exact ih
      · rename_i e
        rw [par, ih, decide_eq_true h]
        revert e
        cases F x <;> cases F x0 <;> cases F z <;> simp

/-- The edges on line y of what is in. -/
def lin (f : Bool → Bool → Bool) (a b : List Rc) (y : Int) : List Int := chg (fun x => f (pt a x y) (pt b x y)) false (xsOf (a ++ b))

/-- What comes of both. -/
def mk (f : Bool → Bool → Bool) (a b : List Rc) : List Rc := fin (lin f a b) (-16777217) [] (ysOf (a ++ b))

theorem pt_turn {l X : List Rc} (hs : ∀ r ∈ l, r ∈ X) (y : Int) {z z' : Int} (hz : z ≤ z') (h : ∀ x ∈ xsOf X, ¬ (z < x ∧ x ≤ z')) : pt l z y = pt l z' y := by
  rw [Bool.eq_iff_iff, pt_iff, pt_iff]
  have key : ∀ r ∈ l, has r z y = has r z' y := fun r hr => by
    have h1 := h r.x (xs_mem.2 ⟨r, hs r hr, .inl rfl⟩)
    have h2 := h (r.x + r.w) (xs_mem.2 ⟨r, hs r hr, .inr rfl⟩)
    rw [Bool.eq_iff_iff, has_iff, has_iff]
    omega
  exact ⟨fun ⟨r, hr, hh⟩ => ⟨r, hr, by rw [← key r hr]; exact hh⟩, fun ⟨r, hr, hh⟩ => ⟨r, hr, by rw [key r hr]; exact hh⟩⟩

theorem pt_turnY {l X : List Rc} (hs : ∀ r ∈ l, r ∈ X) (x : Int) {z z' : Int} (hz : z ≤ z') (h : ∀ y ∈ ysOf X, ¬ (z < y ∧ y ≤ z')) : pt l x z = pt l x z' := by
  rw [Bool.eq_iff_iff, pt_iff, pt_iff]
  have key : ∀ r ∈ l, has r x z = has r x z' := fun r hr => by
    have h1 := h r.y (ys_mem.2 ⟨r, hs r hr, .inl rfl⟩)
    have h2 := h (r.y + r.h) (ys_mem.2 ⟨r, hs r hr, .inr rfl⟩)
    rw [Bool.eq_iff_iff, has_iff, has_iff]
    omega
  exact ⟨fun ⟨r, hr, hh⟩ => ⟨r, hr, by rw [← key r hr]; exact hh⟩, fun ⟨r, hr, hh⟩ => ⟨r, hr, by rw [key r hr]; exact hh⟩⟩

theorem pt_out {l : List Rc} (hk : ∀ r ∈ l, Ck r) {x y : Int} (h : x < -16777216 ∨ 16777216 ≤ x ∨ y < -16777216 ∨ 16777216 ≤ y) : pt l x y = false := by
  rw [pt_no]
  intro r hr
  have k := hk r hr
  obtain ⟨k1, k2, k3, k4, k5, k6⟩ := k
  cases hh : has r x y
  · rfl
  · rw [has_iff] at hh; omega

section
variable {f : Bool → Bool → Bool} {a b : List Rc}

theorem lin_par (hf : f false false = false) (ha : ∀ r ∈ a, Ck r) (hb : ∀ r ∈ b, Ck r) (y x : Int) : par (lin f a b y) x = f (pt a x y) (pt b x y) := by
  have hF : ∀ z z', z ≤ z' → (∀ x ∈ xsOf (a ++ b), ¬ (z < x ∧ x ≤ z')) → (fun x => f (pt a x y) (pt b x y)) z = (fun x => f (pt a x y) (pt b x y)) z' := fun z z' hz h => by
    show f (pt a z y) (pt b z y) = f (pt a z' y) (pt b z' y)
    rw [pt_turn (l := a) (X := a ++ b) (fun r hr => by simp [hr]) y hz h, pt_turn (l := b) (X := a ++ b) (fun r hr => by simp [hr]) y hz h]
  have h0 : ∀ z, z < -16777216 → (fun x => f (pt a x y) (pt b x y)) z = false := fun z hz => by
    show f (pt a z y) (pt b z y) = false
    rw [pt_out ha (.inl hz), pt_out hb (.inl hz), hf]
  have hx : ∀ x ∈ xsOf (a ++ b), -16777217 < x := fun x hx => by
    obtain ⟨r, hr, h⟩ := xs_mem.1 hx
    have k : Ck r := by
      rcases List.mem_append.1 hr with hr | hr
      · exact ha r hr
      · exact hb r hr
    obtain ⟨k1, k2, k3, k4, k5, k6⟩ := k
    omega
  rcases Int.lt_or_le x (-16777217) with h | h
  · rw [par_below fun k hk => by have := hx k ((chg_sub _ _ _).mem hk); omega]
    exact (h0 x (by omega)).symm
  · have := chg_par hF (xsOf (a ++ b)) (-16777217) (xs_rise _) hx (fun x hx => .inr hx) x h
    have e0 : f (pt a (-16777217) y) (pt b (-16777217) y) = false := h0 (-16777217) (by omega)
    rw [e0] at this
    rw [lin, this]
    simp

theorem lin_mem {y x : Int} (h : x ∈ lin f a b y) : x ∈ xsOf (a ++ b) := (chg_sub _ _ _).mem h
theorem xs_in (ha : ∀ r ∈ a, Ck r) {x : Int} (h : x ∈ xsOf a) : -16777216 ≤ x ∧ x ≤ 16777216 := by
  obtain ⟨r, hr, h⟩ := xs_mem.1 h
  obtain ⟨k1, k2, k3, k4, k5, k6⟩ := ha r hr
  omega
theorem ys_in (ha : ∀ r ∈ a, Ck r) {x : Int} (h : x ∈ ysOf a) : -16777216 ≤ x ∧ x ≤ 16777216 := by
  obtain ⟨r, hr, h⟩ := ys_mem.1 h
  obtain ⟨k1, k2, k3, k4, k5, k6⟩ := ha r hr
  omega
theorem ck_both (ha : ∀ r ∈ a, Ck r) (hb : ∀ r ∈ b, Ck r) : ∀ r ∈ a ++ b, Ck r := fun r hr => by
  rcases List.mem_append.1 hr with hr | hr
  · exact ha r hr
  · exact hb r hr

theorem lin_edges (hf : f false false = false) (ha : ∀ r ∈ a, Ck r) (hb : ∀ r ∈ b, Ck r) : Edges (lin f a b) := by
  refine ⟨fun z => (xs_rise (a ++ b)).sublist (chg_sub _ _ _), fun z => ?_⟩
  have h1 := lin_par hf ha hb z 16777216
  rw [pt_out ha (.inr (.inl (by omega))), pt_out hb (.inr (.inl (by omega))), hf, par_above fun k hk => (xs_in (ck_both ha hb) (lin_mem hk)).2] at h1
  have := of_decide_eq_false h1
  omega

theorem lin_none (hf : f false false = false) (ha : ∀ r ∈ a, Ck r) (hb : ∀ r ∈ b, Ck r) {z : Int} (hz : ∀ x, pt a x z = false ∧ pt b x z = false) : lin f a b z = [] :=
  par_eq ((lin_edges hf ha hb).rise z) (by simp) fun x => by rw [lin_par hf ha hb, (hz x).1, (hz x).2, hf]; rfl

theorem turns_of {E : Int → List Int} {Y : List Int} (hc : ∀ z z', z ≤ z' → (∀ y ∈ Y, ¬ (z < y ∧ y ≤ z')) → E z = E z') (he : ∀ z, (∀ y ∈ Y, y ≤ z) → E z = []) : ∀ (ys : List Int) (y0 : Int), ys.Pairwise (· < ·) → (∀ y ∈ ys, y0 < y) → (∀ y ∈ Y, y ≤ y0 ∨ y ∈ ys) → Turns E y0 (E y0) ys
  | [], y0, _, _, h => fun z hz => he z fun y hy => by
    rcases h y hy with h | h
    · omega
    · cases h
  | a :: t, y0, hp, h0, h => by
    have hp' := List.pairwise_cons.1 hp
    have ha := h0 a (by simp)
    refine ⟨ha, fun z h1 h2 => (hc y0 z h1 fun y hy hh => ?_).symm, turns_of hc he t a hp'.2 hp'.1 fun y hy => ?_⟩
    · rcases h y hy with h' | h'
      · omega
      · rcases List.mem_cons.1 h' with rfl | h'
        · omega
        · have := hp'.1 y h'; omega
    · rcases h y hy with h' | h'
      · exact .inl (by omega)
      · rcases List.mem_cons.1 h' with rfl | h'
        · exact .inl (Int.le_refl _)
        · exact .inr h'

theorem lin_turns (hf : f false false = false) (ha : ∀ r ∈ a, Ck r) (hb : ∀ r ∈ b, Ck r) : Turns (lin f a b) (-16777217) [] (ysOf (a ++ b)) := by
  have e0 : lin f a b (-16777217) = [] := lin_none hf ha hb fun x => ⟨pt_out ha (by omega), pt_out hb (by omega)⟩
  have := turns_of (E := lin f a b) (Y := ysOf (a ++ b)) (fun z z' hz h => ?_) (fun z h => ?_) (ysOf (a ++ b)) (-16777217) (ys_rise _) (fun y hy => by have := (ys_in (ck_both ha hb) hy).1; omega) (fun y hy => .inr hy)
  · rw [e0] at this
    exact this
  · refine par_eq ((lin_edges hf ha hb).rise z) ((lin_edges hf ha hb).rise z') fun x => ?_
    rw [lin_par hf ha hb, lin_par hf ha hb, pt_turnY (l := a) (X := a ++ b) (fun r hr => by simp [hr]) x hz h, pt_turnY (l := b) (X := a ++ b) (fun r hr => by simp [hr]) x hz h]
  · have key : ∀ l : List Rc, (∀ r ∈ l, r ∈ a ++ b) → ∀ x, pt l x z = false := fun l hl x => by
      rw [pt_no]
      intro r hr
      have := h _ (ys_mem.2 ⟨r, hl r hr, .inr rfl⟩)
      cases hh : has r x z
      · rfl
      · rw [has_iff] at hh; omega
    exact lin_none hf ha hb fun x => ⟨key a (fun r hr => by simp [hr]) x, key b (fun r hr => by simp [hr]) x⟩

/-- All edges among these. -/
structure Grid (X Y : List Int) (l : List Rc) : Prop where
  all : ∀ r ∈ l, r.x ∈ X ∧ r.x + r.w ∈ X ∧ r.y ∈ Y ∧ r.y + r.h ∈ Y

theorem mk_all (hf : f false false = false) (ha : ∀ r ∈ a, Ck r) (hb : ∀ r ∈ b, Ck r) : Reg (mk f a b) ∧ (∀ x y, pt (mk f a b) x y = f (pt a x y) (pt b x y)) ∧ Grid (xsOf (a ++ b)) (ysOf (a ++ b)) (mk f a b) := by
  obtain ⟨h1, h2, h3⟩ := fin_reg (lin_edges hf ha hb) (ys := ysOf (a ++ b)) (y0 := -16777217) (fun z hz => lin_none hf ha hb fun x => ⟨pt_out ha (by omega), pt_out hb (by omega)⟩) (lin_turns hf ha hb) (fun z k hk => xs_in (ck_both ha hb) (lin_mem hk)) (fun y hy => ys_in (ck_both ha hb) hy)
  exact ⟨h1, fun x y => by rw [mk, h2, lin_par hf ha hb], ⟨fun r hr => by
    obtain ⟨g1, g2, g3, g4⟩ := h3 r hr
    exact ⟨lin_mem g1, lin_mem g2, g3, g4⟩⟩⟩
end

end Go.Proofs.Ytlkodgmnhphfcaa
