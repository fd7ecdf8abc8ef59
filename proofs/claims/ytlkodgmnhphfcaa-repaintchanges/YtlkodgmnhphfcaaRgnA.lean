/- Regions: what they are, and that a set of points has just one; lines' rectangles put together. No program. -/
import Derived.Test.YtlkodgmnhphfcaaRectK
namespace Go.Proofs.Ytlkodgmnhphfcaa
open Go Go.RowKit

/-- A point is in one of them. -/
def pt (l : List Rc) (x y : Int) : Bool := l.any fun r => has r x y
theorem pt_iff {l : List Rc} {x y : Int} : pt l x y = true ↔ ∃ r ∈ l, has r x y = true := by simp [pt]
theorem pt_no {l : List Rc} {x y : Int} : pt l x y = false ↔ ∀ r ∈ l, has r x y = false := by simp [pt]

/-- r may come behind a: in its band, or in one below. -/
def Aft (a r : Rc) : Prop := (r.y = a.y ∧ r.h = a.h ∧ a.x + a.w < r.x) ∨ a.y + a.h ≤ r.y

/-- In bands. -/
structure Bands (l : List Rc) : Prop where
  ck : ∀ r ∈ l, Ck r
  aft : l.Pairwise Aft

/-- A region. -/
structure Reg (l : List Rc) : Prop where
  ck : ∀ r ∈ l, Ck r
  aft : l.Pairwise Aft
  top : ∀ r ∈ l, ∃ x, pt l x (r.y - 1) ≠ pt l x r.y

theorem Reg.bands {l : List Rc} (h : Reg l) : Bands l := ⟨h.ck, h.aft⟩

theorem pairwise_two {α : Type} {R : α → α → Prop} {l : List α} (h : l.Pairwise R) {a b : α} (ha : a ∈ l) (hb : b ∈ l) : a = b ∨ R a b ∨ R b a := by
  induction l with
  | nil => cases ha
  | cons c l ih =>
    rw [List.pairwise_cons] at h
    rcases List.mem_cons.1 ha with rfl | ha'
    · rcases List.mem_cons.1 hb with rfl | hb'
      · exact .inl rfl
      · exact .inr (.inl (h.1 _ hb'))
    · rcases List.mem_cons.1 hb with rfl | hb'
      · exact .inr (.inr (h.1 _ ha'))
      · exact ih h.2 ha' hb'

theorem Bands.two {l : List Rc} (h : Bands l) {a b : Rc} (ha : a ∈ l) (hb : b ∈ l) : a = b ∨ Aft a b ∨ Aft b a := pairwise_two h.aft ha hb

/-- Two that meet in height are of one band. -/
theorem Bands.meet {l : List Rc} (h : Bands l) {a b : Rc} (ha : a ∈ l) (hb : b ∈ l) {y : Int} (h1 : a.y ≤ y ∧ y < a.y + a.h) (h2 : b.y ≤ y ∧ y < b.y + b.h) : a.y = b.y ∧ a.h = b.h ∧ (a = b ∨ a.x + a.w < b.x ∨ b.x + b.w < a.x) := by
  rcases h.two ha hb with rfl | h3 | h3
  · exact ⟨rfl, rfl, .inl rfl⟩
  · rcases h3 with ⟨e1, e2, e3⟩ | h3
    · exact ⟨e1.symm, e2.symm, .inr (.inl e3)⟩
    · omega
  · rcases h3 with ⟨e1, e2, e3⟩ | h3
    · exact ⟨e1, e2, .inr (.inr e3)⟩
    · omega

/-- All lines of a band are alike. -/
theorem Bands.line {l : List Rc} (h : Bands l) {r : Rc} (hr : r ∈ l) {y : Int} (hy : r.y ≤ y ∧ y < r.y + r.h) (x : Int) : pt l x y = pt l x r.y := by
  have k := h.ck r hr
  have k1 := k.h
  rw [Bool.eq_iff_iff, pt_iff, pt_iff]
  constructor
  · rintro ⟨a, ha, hh⟩
    rw [has_iff] at hh
    obtain ⟨e1, e2, _⟩ := h.meet ha hr (y := y) ⟨by omega, by omega⟩ hy
    exact ⟨a, ha, has_iff.2 ⟨by omega, by omega, by omega, by omega, by omega, by omega⟩⟩
  · rintro ⟨a, ha, hh⟩
    rw [has_iff] at hh
    obtain ⟨e1, e2, _⟩ := h.meet ha hr (y := r.y) ⟨by omega, by omega⟩ ⟨by omega, by omega⟩
    exact ⟨a, ha, has_iff.2 ⟨by omega, by omega, by omega, by omega, by omega, by omega⟩⟩

/-- What a region's points say of a rectangle of it. -/
structure Mark (f : Int → Int → Bool) (r : Rc) : Prop where
  w : 1 ≤ r.w
  h : 1 ≤ r.h
  ins : ∀ x, r.x ≤ x → x < r.x + r.w → f x r.y = true
  left : f (r.x - 1) r.y = false
  right : f (r.x + r.w) r.y = false
  line : ∀ y, r.y ≤ y → y < r.y + r.h → ∀ x, f x y = f x r.y
  top : ∃ x, f x (r.y - 1) ≠ f x r.y
  bot : ∃ x, f x (r.y + r.h) ≠ f x r.y

theorem Reg.mark {l : List Rc} (h : Reg l) {r : Rc} (hr : r ∈ l) : Mark (pt l) r := by
  have k := h.ck r hr
  have k1 := k.h
  have k2 := k.w
  have hin : ∀ x, r.x ≤ x → x < r.x + r.w → pt l x r.y = true := fun x h1 h2 => pt_iff.2 ⟨r, hr, has_iff.2 ⟨by omega, by omega, by omega, by omega, by omega, by omega⟩⟩
  refine ⟨k2, k1, hin, ?_, ?_, fun y h1 h2 x => h.bands.line hr ⟨h1, h2⟩ x, h.top r hr, ?_⟩
  · rw [pt_no]
    intro a ha
    cases hh : has a (r.x - 1) r.y
    · rfl
    · rw [has_iff] at hh
      obtain ⟨e1, e2, e3⟩ := h.bands.meet ha hr (y := r.y) ⟨by omega, by omega⟩ ⟨by omega, by omega⟩
      rcases e3 with rfl | e3 | e3 <;> omega
  · rw [pt_no]
    intro a ha
    cases hh : has a (r.x + r.w) r.y
    · rfl
    · rw [has_iff] at hh
      obtain ⟨e1, e2, e3⟩ := h.bands.meet ha hr (y := r.y) ⟨by omega, by omega⟩ ⟨by omega, by omega⟩
      rcases e3 with rfl | e3 | e3 <;> omega
  · by_cases hb : ∃ a ∈ l, a.y = r.y + r.h
    · obtain ⟨a, ha, e⟩ := hb
      obtain ⟨x, hx⟩ := h.top a ha
      refine ⟨x, fun e' => hx ?_⟩
      rw [e, e', h.bands.line hr (by omega) x]
    · refine ⟨r.x, ?_⟩
      rw [hin r.x (by omega) (by omega)]
      intro e
      obtain ⟨a, ha, hh⟩ := pt_iff.1 e
      rw [has_iff] at hh
      rcases h.bands.two ha hr with rfl | h3 | h3
      · omega
      · rcases h3 with ⟨e1, e2, e3⟩ | h3
        · omega
        · omega
      · rcases h3 with ⟨e1, e2, e3⟩ | h3
        · omega
        · exact hb ⟨a, ha, by omega⟩

theorem Reg.mem {l : List Rc} (h : Reg l) {r : Rc} (m : Mark (pt l) r) : r ∈ l := by
  have m1 := m.w
  have m2 := m.h
  obtain ⟨a, ha, hh⟩ := pt_iff.1 (m.ins r.x (by omega) (by omega))
  rw [has_iff] at hh
  have n := h.mark ha
  have ey : a.y = r.y := by
    rcases Int.lt_or_le a.y r.y with h1 | h1
    · obtain ⟨x, hx⟩ := m.top
      exact absurd ((n.line (r.y - 1) (by omega) (by omega) x).trans (n.line r.y (by omega) (by omega) x).symm) hx
    · omega
  have ex : a.x = r.x := by
    rcases Int.lt_or_le a.x r.x with h1 | h1
    · have := n.ins (r.x - 1) (by omega) (by omega)
      rw [ey, m.left] at this
      cases this
    · omega
  have ew : a.w = r.w := by
    rcases Int.lt_trichotomy a.w r.w with h1 | h1 | h1
    · have := m.ins (a.x + a.w) (by omega) (by omega)
      rw [← ey, n.right] at this
      cases this
    · exact h1
    · have := n.ins (r.x + r.w) (by omega) (by omega)
      rw [ey, m.right] at this
      cases this
  have eh : a.h = r.h := by
    rcases Int.lt_trichotomy a.h r.h with h1 | h1 | h1
    · obtain ⟨x, hx⟩ := n.bot
      refine absurd ?_ hx
      rw [ey]
      exact m.line _ (by omega) (by omega) x
    · exact h1
    · obtain ⟨x, hx⟩ := m.bot
      refine absurd ?_ hx
      rw [← ey]
      exact n.line _ (by omega) (by omega) x
  obtain ⟨x, y, w, h'⟩ := a
  obtain ⟨x', y', w', h''⟩ := r
  simp only at ey ex ew eh
  subst ey ex ew eh
  exact ha

theorem aft_asymm {a b : Rc} (ka : Ck a) (kb : Ck b) (h : Aft a b) (h' : Aft b a) : False := by
  have := ka.h
  have := kb.h
  have := ka.w
  have := kb.w
  rcases h with ⟨_, _, _⟩ | _ <;> rcases h' with ⟨_, _, _⟩ | _ <;> omega

/-- Two lists in one order, of the same members, are one. -/
theorem order_eq {α : Type} {R : α → α → Prop} (l m : List α) (hl : l.Pairwise R) (hm : m.Pairwise R) (asy : ∀ a ∈ l, ∀ b ∈ l, R a b → R b a → False) (same : ∀ a, a ∈ l ↔ a ∈ m) : l = m := by
  induction l generalizing m with
  | nil =>
    cases m with
    | nil => rfl
    | cons b m => exact absurd ((same b).2 (by simp)) (by simp)
  | cons a l ih =>
    cases m with
    | nil => exact absurd ((same a).1 (by simp)) (by simp)
    | cons b m =>
      rw [List.pairwise_cons] at hl hm
      have e : a = b := by
        rcases List.mem_cons.1 ((same a).1 (by simp)) with h | h
        · exact h
        · rcases List.mem_cons.1 ((same b).2 (by simp)) with h' | h'
          · exact h'.symm
          · exact (asy a (by simp) b (by simp [h']) (hl.1 b h') (hm.1 a h)).elim
      subst e
      rw [ih m hl.2 hm.2 (fun x hx y hy => asy x (by simp [hx]) y (by simp [hy])) (fun x => ?_)]
      constructor
      · intro hx
        rcases List.mem_cons.1 ((same x).1 (by simp [hx])) with rfl | h
        · exact (asy x (by simp) x (by simp) (hl.1 x hx) (hl.1 x hx)).elim
        · exact h
      · intro hx
        rcases List.mem_cons.1 ((same x).2 (by simp [hx])) with rfl | h
        · exact (asy x (by simp) x (by simp) (hm.1 x hx) (hm.1 x hx)).elim
        · exact h

/-- A set of points has just one region. -/
theorem reg_eq {l m : List Rc} (hl : Reg l) (hm : Reg m) (h : ∀ x y, pt l x y = pt m x y) : l = m := by
  have e : pt l = pt m := funext fun x => funext fun y => h x y
  refine order_eq l m hl.aft hm.aft (fun a ha b hb => aft_asymm (hl.ck a ha) (hl.ck b hb)) (fun a => ⟨fun ha => hm.mem (e ▸ hl.mark ha), fun ha => hl.mem (e ▸ hm.mark ha)⟩)

/-- Whether a number is behind an odd number of the edges. -/
def par : List Int → Int → Bool
  | [], _ => false
  | e :: t, x => decide (e ≤ x) ^^ par t x

theorem par_below {l : List Int} {x : Int} (h : ∀ e ∈ l, x < e) : par l x = false := by
  induction l with
  | nil => rfl
  | cons e t ih =>
    have h1 := h e (by simp)
    rw [par, ih fun k hk => h k (by simp [hk]), decide_eq_false (by omega)]
    rfl
theorem par_above {l : List Int} {x : Int} (h : ∀ e ∈ l, e ≤ x) : par l x = decide (l.length % 2 = 1) := by
  induction l with
  | nil => rfl
  | cons e t ih =>
    rw [par, ih fun k hk => h k (by simp [hk]), decide_eq_true (h e (by simp)), List.length_cons, Bool.eq_iff_iff]
    simp
    omega
theorem par_append (a b : List Int) (x : Int) : par (a ++ b) x = (par a x ^^ par b x) := by
  induction a with
  | nil => simp [par]
  | cons e t ih => rw [List.cons_append, par, par, ih, Bool.xor_assoc]

/-- Edges that rise are told by what is behind them. -/
theorem par_eq {l m : List Int} (hl : l.Pairwise (· < ·)) (hm : m.Pairwise (· < ·)) (h : ∀ x, par l x = par m x) : l = m := by
  induction l generalizing m with
  | nil =>
    cases m with
    | nil => rfl
    | cons b m =>
      rw [List.pairwise_cons] at hm
      have := h b
      rw [par, par, par_below hm.1] at this
      simp at this
  | cons a l ih =>
    rw [List.pairwise_cons] at hl
    cases m with
    | nil =>
      have := h a
      rw [par, par, par_below hl.1] at this
      simp at this
    | cons b m =>
      rw [List.pairwise_cons] at hm
      have e : a = b := by
        rcases Int.lt_trichotomy a b with h1 | h1 | h1
        · have := h a
          rw [par, par_below hl.1, par_below (l := b :: m) (fun k hk => by
            rcases List.mem_cons.1 hk with rfl | hk
            · exact h1
            · have := hm.1 k hk; omega)] at this
          simp at this
        · exact h1
        · have := h b
          rw [par_below (l := a :: l) (fun k hk => by
            rcases List.mem_cons.1 hk with rfl | hk
            · exact h1
            · have := hl.1 k hk; omega), par, par_below hm.1] at this
          simp at this
      subst e
      rw [ih hl.2 hm.2 fun x => ?_]
      have := h x
      rw [par, par] at this
      exact Bool.xor_right_inj.1 this

/-- The rectangles of a line's edges, from y on, h high. -/
def prs (y h : Int) : List Int → List Rc
  | a :: b :: t => ⟨a, y, b - a, h⟩ :: prs y h t
  | _ => []

theorem prs_mem {y h : Int} {r : Rc} : ∀ {e : List Int}, e.Pairwise (· < ·) → r ∈ prs y h e → r.y = y ∧ r.h = h ∧ 1 ≤ r.w ∧ r.x ∈ e ∧ r.x + r.w ∈ e
  | [], _, hr => by simp [prs] at hr
  | [_], _, hr => by simp [prs] at hr
  | a :: b :: t, hp, hr => by
    rw [List.pairwise_cons, List.pairwise_cons] at hp
    rw [prs] at hr
    rcases List.mem_cons.1 hr with rfl | hr
    · have := hp.1 b (by simp)
      exact ⟨rfl, rfl, by simp only; omega, by simp, by simp only; rw [show a + (b - a) = b by omega]; simp⟩
    · obtain ⟨h1, h2, h3, h4, h5⟩ := prs_mem hp.2.2 hr
      exact ⟨h1, h2, h3, by simp [h4], by simp [h5]⟩

theorem prs_aft {y h : Int} : ∀ {e : List Int}, e.Pairwise (· < ·) → (prs y h e).Pairwise Aft
  | [], _ => by simp [prs]
  | [_], _ => by simp [prs]
  | a :: b :: t, hp => by
    rw [List.pairwise_cons, List.pairwise_cons] at hp
    rw [prs, List.pairwise_cons]
    refine ⟨fun r hr => ?_, prs_aft hp.2.2⟩
    obtain ⟨h1, h2, h3, h4, h5⟩ := prs_mem hp.2.2 hr
    have := hp.2.1 _ h4
    exact .inl ⟨h1, h2, by simp only; omega⟩

theorem pt_cons (r : Rc) (l : List Rc) (x y : Int) : pt (r :: l) x y = (has r x y || pt l x y) := by simp [pt]
theorem pt_append (a b : List Rc) (x y : Int) : pt (a ++ b) x y = (pt a x y || pt b x y) := by simp [pt]
theorem pt_nil (x y : Int) : pt [] x y = false := rfl

theorem prs_pt {y h : Int} (hh : 1 ≤ h) (x z : Int) : ∀ {e : List Int}, e.Pairwise (· < ·) → e.length % 2 = 0 → pt (prs y h e) x z = (decide (y ≤ z) && decide (z < y + h) && par e x)
  | [], _, _ => by simp [prs, pt, par]
  | [_], _, h2 => by simp at h2
  | a :: b :: t, hp, h2 => by
    rw [List.pairwise_cons, List.pairwise_cons] at hp
    rw [prs, pt_cons, prs_pt hh x z hp.2.2 (by simpa [Nat.add_assoc] using h2)]
    have h1 := hp.1 b (by simp)
    rw [par, par]
    by_cases hz : y ≤ z ∧ z < y + h
    · rw [decide_eq_true hz.1, decide_eq_true hz.2, Bool.true_and, Bool.true_and, Bool.true_and]
      by_cases ha : a ≤ x
      · by_cases hb : b ≤ x
        · have : has ⟨a, y, b - a, h⟩ x z = false := by
            cases hq : has ⟨a, y, b - a, h⟩ x z
            · rfl
            · rw [has_iff] at hq; simp only at hq; omega
          rw [this, decide_eq_true ha, decide_eq_true hb]
          cases par t x <;> rfl
        · have : has ⟨a, y, b - a, h⟩ x z = true := has_iff.2 ⟨by simp only; omega, by simp only; omega, by simp only; omega, by simp only; omega, by simp only; omega, by simp only; omega⟩
          rw [this, decide_eq_true ha, decide_eq_false hb, par_below fun k hk => by have := hp.2.1 k hk; omega]
          rfl
      · have : has ⟨a, y, b - a, h⟩ x z = false := by
          cases hq : has ⟨a, y, b - a, h⟩ x z
          · rfl
          · rw [has_iff] at hq; simp only at hq; omega
        rw [this, decide_eq_false ha, decide_eq_false (by omega), par_below fun k hk => by have := hp.2.1 k hk; omega]
        rfl
    · have : has ⟨a, y, b - a, h⟩ x z = false := by
        cases hq : has ⟨a, y, b - a, h⟩ x z
        · rfl
        · rw [has_iff] at hq; simp only at hq; omega
      rw [this]
      have : (decide (y ≤ z) && decide (z < y + h)) = false := by
        rw [← Bool.not_eq_true, Bool.and_eq_true, decide_eq_true_eq, decide_eq_true_eq]
        exact hz
      rw [this]
      rfl

/-- The lines' rectangles: since y0 the edges are e. -/
def fin (E : Int → List Int) (y0 : Int) (e : List Int) : List Int → List Rc
  | [] => []
  | y :: t => if E y = e then fin E y0 e t else prs y0 (y - y0) e ++ fin E y (E y) t

/-- The edges turn at these lines alone; from the last one on there are none. -/
def Turns (E : Int → List Int) (y0 : Int) (e : List Int) : List Int → Prop
  | [] => ∀ z, y0 ≤ z → E z = []
  | y :: t => y0 < y ∧ (∀ z, y0 ≤ z → z < y → E z = e) ∧ Turns E y (E y) t

theorem Turns.on {E : Int → List Int} {y0 y : Int} {e : List Int} {t : List Int} (h0 : y0 < y) (hz : ∀ z, y0 ≤ z → z < y → E z = e) (he : E y = e) (h : Turns E y (E y) t) : Turns E y0 e t := by
  cases t with
  | nil =>
    intro z h1
    rcases Int.lt_or_le z y with h2 | h2
    · rw [hz z h1 h2, ← he]; exact h y (Int.le_refl _)
    · exact h z h2
  | cons y' t =>
    obtain ⟨h1, h2, h3⟩ := h
    refine ⟨by omega, fun z h4 h5 => ?_, h3⟩
    rcases Int.lt_or_le z y with h6 | h6
    · exact hz z h4 h6
    · rw [h2 z h6 h5, he]

structure Edges (E : Int → List Int) : Prop where
  rise : ∀ z, (E z).Pairwise (· < ·)
  even : ∀ z, (E z).length % 2 = 0

theorem fin_pt {E : Int → List Int} (hE : Edges E) (x z : Int) : ∀ (ys : List Int) (y0 : Int) (e : List Int), e.Pairwise (· < ·) → e.length % 2 = 0 → Turns E y0 e ys → pt (fin E y0 e ys) x z = (decide (y0 ≤ z) && par (E z) x)
  | [], y0, e, _, _, h => by
    rw [fin, pt_nil]
    by_cases h1 : y0 ≤ z
    · rw [h z h1, par, Bool.and_false]
    · rw [decide_eq_false h1]; rfl
  | y :: t, y0, e, hr, he, h => by
    obtain ⟨h1, h2, h3⟩ := h
    rw [fin]
    by_cases hh : E y = e
    · rw [if_pos hh]
      exact fin_pt hE x z t y0 e hr he (Turns.on h1 h2 hh h3)
    · rw [if_neg hh, pt_append, prs_pt (by omega) x z hr he, fin_pt hE x z t y (E y) (hE.rise y) (hE.even y) h3]
      by_cases h4 : y0 ≤ z
      · by_cases h5 : z < y
        · rw [h2 z h4 h5, decide_eq_true h4, decide_eq_true (show z < y0 + (y - y0) by omega), decide_eq_false (show ¬ y ≤ z by omega)]
          simp
        · rw [decide_eq_true h4, decide_eq_false (show ¬ z < y0 + (y - y0) by omega), decide_eq_true (show y ≤ z by omega)]
          simp
      · rw [decide_eq_false h4, decide_eq_false (show ¬ y ≤ z by omega)]
        simp

theorem Turns.ends {E : Int → List Int} : ∀ {ys : List Int} {y0 : Int} {e : List Int}, Turns E y0 e ys → ∀ y ∈ ys, y0 < y
  | [], _, _, _, y, hy => by cases hy
  | a :: t, y0, e, h, y, hy => by
    obtain ⟨h1, h2, h3⟩ := h
    rcases List.mem_cons.1 hy with rfl | hy
    · exact h1
    · have := Turns.ends h3 y hy; omega

theorem fin_mem {E : Int → List Int} (hE : Edges E) {r : Rc} : ∀ (ys : List Int) (y0 : Int) (e : List Int), e.Pairwise (· < ·) → E y0 = e → Turns E y0 e ys → r ∈ fin E y0 e ys →
    y0 ≤ r.y ∧ 1 ≤ r.h ∧ 1 ≤ r.w ∧ r.x ∈ E r.y ∧ r.x + r.w ∈ E r.y ∧ (r.y = y0 ∨ (r.y ∈ ys ∧ E (r.y - 1) ≠ E r.y)) ∧ r.y + r.h ∈ ys
  | [], _, _, _, _, _, hr => by rw [fin] at hr; cases hr
  | y :: t, y0, e, hp, he, h, hr => by
    obtain ⟨h1, h2, h3⟩ := h
    rw [fin] at hr
    by_cases hh : E y = e
    · rw [if_pos hh] at hr
      obtain ⟨g1, g2, g3, g4, g5, g6, g7⟩ := fin_mem hE t y0 e hp he (Turns.on h1 h2 hh h3) hr
      refine ⟨g1, g2, g3, g4, g5, ?_, by simp [g7]⟩
      rcases g6 with g6 | ⟨g6, g8⟩
      · exact .inl g6
      · exact .inr ⟨by simp [g6], g8⟩
    · rw [if_neg hh] at hr
      rcases List.mem_append.1 hr with hr | hr
      · obtain ⟨g1, g2, g3, g4, g5⟩ := prs_mem hp hr
        rw [g1, g2, he]
        exact ⟨Int.le_refl _, by omega, g3, g4, g5, .inl rfl, by rw [show y0 + (y - y0) = y by omega]; simp⟩
      · obtain ⟨g1, g2, g3, g4, g5, g6, g7⟩ := fin_mem hE t y (E y) (hE.rise y) rfl h3 hr
        refine ⟨by omega, g2, g3, g4, g5, .inr ?_, by simp [g7]⟩
        rcases g6 with g6 | ⟨g6, g8⟩
        · refine ⟨by simp [g6], ?_⟩
          rw [g6, h2 (y - 1) (by omega) (by omega)]
          exact fun e' => hh e'.symm
        · exact ⟨by simp [g6], g8⟩

theorem fin_aft {E : Int → List Int} (hE : Edges E) : ∀ (ys : List Int) (y0 : Int) (e : List Int), e.Pairwise (· < ·) → E y0 = e → Turns E y0 e ys → (fin E y0 e ys).Pairwise Aft
  | [], _, _, _, _, _ => by rw [fin]; exact List.Pairwise.nil
  | y :: t, y0, e, hp, he, h => by
    obtain ⟨h1, h2, h3⟩ := h
    rw [fin]
    by_cases hh : E y = e
    · rw [if_pos hh]
      exact fin_aft hE t y0 e hp he (Turns.on h1 h2 hh h3)
    · rw [if_neg hh, List.pairwise_append]
      refine ⟨prs_aft hp, fin_aft hE t y (E y) (hE.rise y) rfl h3, fun a ha b hb => ?_⟩
      obtain ⟨g1, g2, g3, g4, g5⟩ := prs_mem hp ha
      have := (fin_mem hE t y (E y) (hE.rise y) rfl h3 hb).1
      exact .inr (by omega)

/-- Lines' edges from nothing on: a region. -/
theorem fin_reg {E : Int → List Int} (hE : Edges E) {ys : List Int} {y0 : Int} (h0 : ∀ z, z ≤ y0 → E z = []) (hT : Turns E y0 [] ys) (hx : ∀ z, ∀ k ∈ E z, -16777216 ≤ k ∧ k ≤ 16777216) (hy : ∀ y ∈ ys, -16777216 ≤ y ∧ y ≤ 16777216) :
    Reg (fin E y0 [] ys) ∧ (∀ x z, pt (fin E y0 [] ys) x z = par (E z) x) ∧ (∀ r ∈ fin E y0 [] ys, r.x ∈ E r.y ∧ r.x + r.w ∈ E r.y ∧ r.y ∈ ys ∧ r.y + r.h ∈ ys) := by
  have hm : ∀ r ∈ fin E y0 [] ys, _ := fun r hr => fin_mem hE (r := r) ys y0 [] (by simp) (h0 y0 (Int.le_refl _)) hT hr
  have hp : ∀ x z, pt (fin E y0 [] ys) x z = par (E z) x := fun x z => by
    rw [fin_pt hE x z ys y0 [] (by simp) rfl hT]
    by_cases h : y0 ≤ z
    · rw [decide_eq_true h, Bool.true_and]
    · rw [decide_eq_false h, h0 z (by omega)]; rfl
  have hn : ∀ r ∈ fin E y0 [] ys, r.y ∈ ys ∧ E (r.y - 1) ≠ E r.y := fun r hr => by
    obtain ⟨g1, g2, g3, g4, g5, g6, g7⟩ := hm r hr
    rcases g6 with g6 | g6
    · rw [h0 r.y (by omega)] at g4; cases g4
    · exact g6
  refine ⟨⟨fun r hr => ?_, fin_aft hE ys y0 [] (by simp) (h0 y0 (Int.le_refl _)) hT, fun r hr => ?_⟩, hp, fun r hr => ?_⟩
  · obtain ⟨g1, g2, g3, g4, g5, g6, g7⟩ := hm r hr
    have a1 := hx _ _ g4
    have a2 := hx _ _ g5
    have a3 := hy _ g7
    have a4 := hy _ (hn r hr).1
    exact ⟨g3, g2, a1.1, a4.1, a2.2, a3.2⟩
  · refine Classical.byContradiction fun hc => (hn r hr).2 (par_eq (hE.rise _) (hE.rise _) fun x => ?_)
    rw [← hp, ← hp]
    exact Classical.byContradiction fun h => hc ⟨x, h⟩
  · obtain ⟨g1, g2, g3, g4, g5, g6, g7⟩ := hm r hr
    exact ⟨g4, g5, (hn r hr).1, g7⟩

theorem fin_start (E : Int → List Int) (y0 y1 : Int) : ∀ ys, fin E y0 [] ys = fin E y1 [] ys
  | [] => rfl
  | y :: t => by
    rw [fin, fin]
    split
    · exact fin_start E y0 y1 t
    · rfl
theorem fin_congr {E E' : Int → List Int} (h : ∀ z, E z = E' z) (y0 : Int) (e : List Int) (ys : List Int) : fin E y0 e ys = fin E' y0 e ys := by rw [funext h]

end Go.Proofs.Ytlkodgmnhphfcaa
