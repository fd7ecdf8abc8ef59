/- The edges on a line, and two lines' edges as one. No program. -/
import Derived.Test.YtlkodgmnhphfcaaRgnC
namespace Go.Proofs.Ytlkodgmnhphfcaa
open Go Go.RowKit

/-- A line goes through it. -/
def lies (y : Int) (r : Rc) : Bool := decide (r.y ≤ y) && decide (y < r.y + r.h)
def spans (l : List Rc) : List Int := l.flatMap fun r => [r.x, r.x + r.w]
/-- The edges on a line. -/
def rowE (l : List Rc) (y : Int) : List Int := spans (l.filter (lies y))

theorem lies_iff {y : Int} {r : Rc} : lies y r = true ↔ r.y ≤ y ∧ y < r.y + r.h := by simp [lies]
theorem spans_cons (r : Rc) (l : List Rc) : spans (r :: l) = r.x :: (r.x + r.w) :: spans l := rfl
theorem spans_mem {l : List Rc} {x : Int} : x ∈ spans l ↔ ∃ r ∈ l, x = r.x ∨ x = r.x + r.w := by simp [spans]
theorem spans_length (l : List Rc) : (spans l).length = 2 * l.length := by
  induction l with
  | nil => rfl
  | cons r l ih => rw [spans_cons, List.length_cons, List.length_cons, ih, List.length_cons]; omega

theorem spans_rise {l : List Rc} (hp : l.Pairwise fun a b => a.x + a.w < b.x) (hw : ∀ r ∈ l, 1 ≤ r.w) : (spans l).Pairwise (· < ·) := by
  induction l with
  | nil => simp [spans]
  | cons r l ih =>
    rw [List.pairwise_cons] at hp
    have h1 := hw r (by simp)
    have key : ∀ x ∈ spans l, r.x + r.w < x := fun x hx => by
      obtain ⟨a, ha, h⟩ := spans_mem.1 hx
      have := hp.1 a ha
      have := hw a (by simp [ha])
      omega
    rw [spans_cons, List.pairwise_cons, List.pairwise_cons]
    refine ⟨fun x hx => ?_, key, ih hp.2 fun a ha => hw a (by simp [ha])⟩
    rcases List.mem_cons.1 hx with rfl | hx
    · omega
    · have := key x hx; omega

theorem spans_par {l : List Rc} (hp : l.Pairwise fun a b => a.x + a.w < b.x) (hw : ∀ r ∈ l, 1 ≤ r.w) (x : Int) : par (spans l) x = l.any fun r => decide (r.x ≤ x) && decide (x < r.x + r.w) := by
  induction l with
  | nil => rfl
  | cons r l ih =>
    have hp' := List.pairwise_cons.1 hp
    have h1 := hw r (by simp)
    rw [spans_cons, par, par, ih hp'.2 fun a ha => hw a (by simp [ha]), List.any_cons]
    by_cases ha : r.x ≤ x
    · by_cases hb : r.x + r.w ≤ x
      · rw [decide_eq_true ha, decide_eq_true hb, decide_eq_false (show ¬ x < r.x + r.w by omega)]
        simp
      · have : (l.any fun r => decide (r.x ≤ x) && decide (x < r.x + r.w)) = false := by
          rw [List.any_eq_false]
          intro a ha'
          have := hp'.1 a ha'
          simp
          omega
        rw [this, decide_eq_true ha, decide_eq_false hb, decide_eq_true (show x < r.x + r.w by omega)]
        rfl
    · rw [decide_eq_false ha, decide_eq_false (show ¬ r.x + r.w ≤ x by omega)]
      simp

theorem Bands.row {l : List Rc} (h : Bands l) (y : Int) : (l.filter (lies y)).Pairwise fun a b => a.x + a.w < b.x := by
  refine (h.aft.filter _).imp_of_mem fun {a b} ha hb hr => ?_
  have h1 := lies_iff.1 (List.mem_filter.1 ha).2
  have h2 := lies_iff.1 (List.mem_filter.1 hb).2
  rcases hr with ⟨_, _, h3⟩ | h3
  · exact h3
  · omega
theorem Bands.rowW {l : List Rc} (h : Bands l) (y : Int) : ∀ r ∈ l.filter (lies y), 1 ≤ r.w := fun r hr => (h.ck r (List.mem_filter.1 hr).1).w
theorem rowE_rise {l : List Rc} (h : Bands l) (y : Int) : (rowE l y).Pairwise (· < ·) := spans_rise (h.row y) (h.rowW y)
theorem rowE_par {l : List Rc} (h : Bands l) (y x : Int) : par (rowE l y) x = pt l x y := by
  rw [rowE, spans_par (h.row y) (h.rowW y), pt, Bool.eq_iff_iff, List.any_eq_true, List.any_eq_true]
  constructor
  · rintro ⟨r, hr, hh⟩
    have h1 := List.mem_filter.1 hr
    have h2 := lies_iff.1 h1.2
    have k := h.ck r h1.1
    have k1 := k.w
    have k2 := k.h
    simp only [Bool.and_eq_true, decide_eq_true_eq] at hh
    exact ⟨r, h1.1, has_iff.2 ⟨k1, k2, hh.1, hh.2, h2.1, h2.2⟩⟩
  · rintro ⟨r, hr, hh⟩
    rw [has_iff] at hh
    exact ⟨r, List.mem_filter.2 ⟨hr, lies_iff.2 ⟨hh.2.2.2.2.1, hh.2.2.2.2.2⟩⟩, by simp; omega⟩
theorem rowE_even (l : List Rc) (y : Int) : (rowE l y).length % 2 = 0 := by rw [rowE, spans_length]; omega
theorem rowE_length (l : List Rc) (y : Int) : (rowE l y).length ≤ 2 * l.length := by
  rw [rowE, spans_length]
  have := List.length_filter_le (lies y) l
  omega

/-- Two lines' edges as one: pa, pb, po: whether the edges so far are odd. -/
def mix (f : Bool → Bool → Bool) (pa pb po : Bool) (a b : List Int) : List Int :=
  match a, b with
  | [], [] => []
  | x :: a, [] => if f (!pa) pb = po then mix f (!pa) pb po a [] else x :: mix f (!pa) pb (!po) a []
  | [], y :: b => if f pa (!pb) = po then mix f pa (!pb) po [] b else y :: mix f pa (!pb) (!po) [] b
  | x :: a, y :: b =>
    if x < y then (if f (!pa) pb = po then mix f (!pa) pb po a (y :: b) else x :: mix f (!pa) pb (!po) a (y :: b))
    else if y < x then (if f pa (!pb) = po then mix f pa (!pb) po (x :: a) b else y :: mix f pa (!pb) (!po) (x :: a) b)
    else (if f (!pa) (!pb) = po then mix f (!pa) (!pb) po a b else x :: mix f (!pa) (!pb) (!po) a b)
  termination_by a.length + b.length

structure Mixes (f : Bool → Bool → Bool) (pa pb po : Bool) (a b m : List Int) : Prop where
  mem : ∀ x ∈ m, x ∈ a ∨ x ∈ b
  rise : m.Pairwise (· < ·)
  par : ∀ z, (po ^^ par m z) = f (pa ^^ par a z) (pb ^^ par b z)

theorem mixes_step {f : Bool → Bool → Bool} {pa pb po : Bool} {a b : List Int} {x : Int} {pa' pb' : Bool} {a' b' : List Int} {rest : Bool → List Int}
    (ha : ∀ k ∈ a, x ≤ k) (hb : ∀ k ∈ b, x ≤ k) (ha' : ∀ k ∈ a', x < k) (hb' : ∀ k ∈ b', x < k) (sa : ∀ k ∈ a', k ∈ a) (sb : ∀ k ∈ b', k ∈ b) (hx : x ∈ a ∨ x ∈ b)
    (ea : ∀ z, x ≤ z → (pa' ^^ par a' z) = (pa ^^ par a z)) (eb : ∀ z, x ≤ z → (pb' ^^ par b' z) = (pb ^^ par b z)) (hpo : po = f pa pb)
    (ih : ∀ po', po' = f pa' pb' → Mixes f pa' pb' po' a' b' (rest po')) : Mixes f pa pb po a b (if f pa' pb' = po then rest po else x :: rest (!po)) := by
  have low : ∀ {m : List Int}, (∀ k ∈ m, x ≤ k) → ∀ z, z < x → par m z = false := fun hm z hz => par_below fun k hk => by have := hm k hk; omega
  split
  · rename_i e
    obtain ⟨h1, h2, h3⟩ := ih po e.symm
    refine ⟨fun k hk => ?_, h2, fun z => ?_⟩
    · rcases h1 k hk with h | h
      · exact .inl (sa k h)
      · exact .inr (sb k h)
    · rcases Int.lt_or_le z x with hz | hz
      · rw [low ha z hz, low hb z hz, low (m := rest po) (fun k hk => by
          rcases h1 k hk with h | h
          · have := ha' k h; omega
          · have := hb' k h; omega) z hz, Bool.xor_false, Bool.xor_false, Bool.xor_false]
        exact hpo
      · rw [h3 z, ea z hz, eb z hz]
  · rename_i e
    have e' : (!po) = f pa' pb' := by revert e; cases f pa' pb' <;> cases po <;> simp
    obtain ⟨h1, h2, h3⟩ := ih (!po) e'
    have up : ∀ k ∈ rest (!po), x < k := fun k hk => by
      rcases h1 k hk with h | h
      · exact ha' k h
      · exact hb' k h
    refine ⟨fun k hk => ?_, List.pairwise_cons.2 ⟨up, h2⟩, fun z => ?_⟩
    · rcases List.mem_cons.1 hk with rfl | hk
      · exact hx
      · rcases h1 k hk with h | h
        · exact .inl (sa k h)
        · exact .inr (sb k h)
    · rcases Int.lt_or_le z x with hz | hz
      · rw [low ha z hz, low hb z hz, low (m := x :: rest (!po)) (fun k hk => by
          rcases List.mem_cons.1 hk with rfl | hk
          · exact Int.le_refl _
          · have := up k hk; omega) z hz, Bool.xor_false, Bool.xor_false, Bool.xor_false]
        exact hpo
      · have := h3 z
        rw [ea z hz, eb z hz] at this
        rw [← this, par, decide_eq_true hz]
        cases po <;> cases par (rest _) z <;> rfl

theorem xor_flip {p : Bool} {x z : Int} {t : List Int} (hz : x ≤ z) : ((!p) ^^ par t z) = (p ^^ par (x :: t) z) := by
  rw [par, decide_eq_true hz]
  cases p <;> cases par t z <;> rfl

theorem mix_mixes (f : Bool → Bool → Bool) : ∀ (n : Nat) (pa pb po : Bool) (a b : List Int), a.length + b.length ≤ n → a.Pairwise (· < ·) → b.Pairwise (· < ·) → po = f pa pb → Mixes f pa pb po a b (mix f pa pb po a b) := by
  intro n
  induction n with
  | zero =>
    intro pa pb po a b hn _ _ hpo
    obtain rfl : a = [] := List.eq_nil_of_length_eq_zero (by omega)
    obtain rfl : b = [] := List.eq_nil_of_length_eq_zero (by omega)
    rw [mix]
    exact ⟨fun x hx => (by cases hx), by simp, fun z => by simp [par, hpo]⟩
  | succ n ih =>
    intro pa pb po a b hn ha hb hpo
    match a, b with
    | [], [] =>
      rw [mix]
      exact ⟨fun x hx => (by cases hx), by simp, fun z => by simp [par, hpo]⟩
    | x :: a, [] =>
      have ha' := List.pairwise_cons.1 ha
      rw [mix]
      refine mixes_step (rest := fun po => mix f (!pa) pb po a []) ?_ ?_ ha'.1 ?_ (fun k hk => by simp [hk]) (fun k hk => hk) (by simp) (fun z hz => xor_flip hz) (fun z hz => rfl) hpo fun po' h => ih _ _ _ _ _ (by simp at hn ⊢; omega) ha'.2 hb h
      · intro k hk
        rcases List.mem_cons.1 hk with rfl | hk
        · exact Int.le_refl _
        · have := ha'.1 k hk; omega
      · intro k hk; cases hk
      · intro k hk; cases hk
    | [], y :: b =>
      have hb' := List.pairwise_cons.1 hb
      rw [mix]
      refine mixes_step (rest := fun po => mix f pa (!pb) po [] b) ?_ ?_ ?_ hb'.1 (fun k hk => hk) (fun k hk => by simp [hk]) (by simp) (fun z hz => rfl) (fun z hz => xor_flip hz) hpo fun po' h => ih _ _ _ _ _ (by simp at hn ⊢; omega) ha hb'.2 h
      · intro k hk; cases hk
      · intro k hk
        rcases List.mem_cons.1 hk with rfl | hk
        · exact Int.le_refl _
        · have := hb'.1 k hk; omega
      · intro k hk; cases hk
    | x :: a, y :: b =>
      have ha' := List.pairwise_cons.1 ha
      have hb' := List.pairwise_cons.1 hb
      have ga : ∀ v, v ≤ x → ∀ k ∈ x :: a, v ≤ k := fun v hv k hk => by
        rcases List.mem_cons.1 hk with rfl | hk
        · exact hv
        · have := ha'.1 k hk; omega
      have gb : ∀ v, v ≤ y → ∀ k ∈ y :: b, v ≤ k := fun v hv k hk => by
        rcases List.mem_cons.1 hk with rfl | hk
        · exact hv
        · have := hb'.1 k hk; omega
      have sa : ∀ v, v < x → ∀ k ∈ x :: a, v < k := fun v hv k hk => by have := ga x (Int.le_refl _) k hk; omega
      have sb : ∀ v, v < y → ∀ k ∈ y :: b, v < k := fun v hv k hk => by have := gb y (Int.le_refl _) k hk; omega
      rw [mix]
      split
      · rename_i h1
        exact mixes_step (rest := fun po => mix f (!pa) pb po a (y :: b)) (ga x (Int.le_refl _)) (gb x (by omega)) ha'.1 (sb x h1) (fun k hk => by simp [hk]) (fun k hk => hk) (by simp) (fun z hz => xor_flip hz) (fun z hz => rfl) hpo fun po' h => ih _ _ _ _ _ (by simp at hn ⊢; omega) ha'.2 hb h
      · split
        · rename_i h1 h2
          exact mixes_step (rest := fun po => mix f pa (!pb) po (x :: a) b) (ga y (by omega)) (gb y (Int.le_refl _)) (sa y h2) hb'.1 (fun k hk => hk) (fun k hk => by simp [hk]) (by simp) (fun z hz => rfl) (fun z hz => xor_flip hz) hpo fun po' h => ih _ _ _ _ _ (by simp at hn ⊢; omega) ha hb'.2 h
        · rename_i h1 h2
          obtain rfl : x = y := by omega
          exact mixes_step (rest := fun po => mix f (!pa) (!pb) po a b) (ga x (Int.le_refl _)) (gb x (Int.le_refl _)) ha'.1 hb'.1 (fun k hk => by simp [hk]) (fun k hk => by simp [hk]) (by simp) (fun z hz => xor_flip hz) (fun z hz => xor_flip hz) hpo fun po' h => ih _ _ _ _ _ (by simp at hn ⊢; omega) ha'.2 hb'.2 h

/-- The program's edges on a line are the document's. -/
theorem mix_lin {f : Bool → Bool → Bool} {a b : List Rc} (hf : f false false = false) (ha : Bands a) (hb : Bands b) (y : Int) : mix f false false false (rowE a y) (rowE b y) = lin f a b y := by
  have h := mix_mixes f _ false false false (rowE a y) (rowE b y) (Nat.le_refl _) (rowE_rise ha y) (rowE_rise hb y) hf.symm
  refine par_eq h.rise ((lin_edges hf ha.ck hb.ck).rise y) fun x => ?_
  have := h.par x
  rw [Bool.false_xor, Bool.false_xor, Bool.false_xor, rowE_par ha, rowE_par hb] at this
  rw [this, lin_par hf ha.ck hb.ck]

end Go.Proofs.Ytlkodgmnhphfcaa
