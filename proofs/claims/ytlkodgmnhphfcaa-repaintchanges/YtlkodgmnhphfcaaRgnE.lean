/- The document's rows and the program's rows are one. No program. -/
import Derived.Test.YtlkodgmnhphfcaaRgnD
namespace Go.Proofs.Ytlkodgmnhphfcaa
open Go Go.RowKit

/-- A line's rectangles, cell by cell. -/
def rstep (F : Int → Bool) (y h : Int) (acc : List Rc) (x x' : Int) : List Rc :=
  if F x = false then acc else match acc.getLast? with
    | some r => if r.x + r.w = x then acc.dropLast ++ [⟨r.x, r.y, x' - r.x, r.h⟩] else acc ++ [⟨x, y, x' - x, h⟩]
    | none => acc ++ [⟨x, y, x' - x, h⟩]
def rgo (F : Int → Bool) (y h : Int) (acc : List Rc) : List Int → List Rc
  | x :: x' :: t => rgo F y h (rstep F y h acc x x') (x' :: t)
  | _ => acc

theorem prs_append {y h : Int} : ∀ {a : List Int} (b : List Int), a.length % 2 = 0 → prs y h (a ++ b) = prs y h a ++ prs y h b
  | [], b, _ => rfl
  | [_], _, h => by simp at h
  | k :: m :: a, b, h2 => by
    rw [List.cons_append, List.cons_append, prs, prs, prs_append b (by simpa [Nat.add_assoc] using h2), List.cons_append]

theorem last_two {l : List Int} (h : l.length % 2 = 0) (hl : l ≠ []) : ∃ m a b, l = m ++ [a, b] ∧ m.length % 2 = 0 := by
  have h2 : 2 ≤ l.length := by
    rcases l with _ | ⟨a, _ | ⟨b, t⟩⟩
    · exact absurd rfl hl
    · simp at h
    · simp
  refine ⟨l.take (l.length - 2), l[l.length - 2], l[l.length - 1], ?_, by rw [List.length_take]; omega⟩
  have e1 : l = l.take (l.length - 2) ++ l.drop (l.length - 2) := (List.take_append_drop _ _).symm
  have e2 : l.drop (l.length - 2) = [l[l.length - 2], l[l.length - 1]] := by
    rw [List.drop_eq_getElem_cons (by omega), List.drop_eq_getElem_cons (by omega)]
    congr 1
    rw [List.drop_eq_nil_of_le (by omega)]
    congr 2
    omega
  rw [← e2]
  exact e1
theorem last_one {l : List Int} (h : l.length % 2 = 1) : ∃ m a, l = m ++ [a] ∧ m.length % 2 = 0 := by
  refine ⟨l.dropLast, l.getLast (fun e => by rw [e] at h; simp at h), (List.dropLast_concat_getLast _).symm, by rw [List.length_dropLast]; omega⟩

theorem rstep_no {F : Int → Bool} {x : Int} (h : F x = false) (y k : Int) (acc : List Rc) (x' : Int) : rstep F y k acc x x' = acc := by rw [rstep, if_pos h]
theorem rstep_new {F : Int → Bool} {x : Int} (h : F x = true) (y k : Int) {es : List Int} (h2 : es.length % 2 = 0) (hl : ∀ e ∈ es, e < x) (x' : Int) : rstep F y k (prs y k es) x x' = prs y k (es ++ [x, x']) := by
  rw [rstep, if_neg (by rw [h]; decide), prs_append _ h2]
  by_cases he : es = []
  · subst he
    rfl
  · obtain ⟨m, a, b, rfl, hm⟩ := last_two h2 he
    have e : prs y k (m ++ [a, b]) = prs y k m ++ [⟨a, y, b - a, k⟩] := by rw [prs_append _ hm]; rfl
    have hb := hl b (by simp)
    rw [e, List.getLast?_append]
    simp only [List.getLast?_singleton, Option.some_or]
    rw [if_neg (by omega)]
    rfl
theorem rstep_on {F : Int → Bool} {x : Int} (h : F x = true) (y k : Int) {es : List Int} (h2 : es.length % 2 = 1) (x' : Int) : rstep F y k (prs y k (es ++ [x])) x x' = prs y k (es ++ [x']) := by
  obtain ⟨m, a, rfl, hm⟩ := last_one h2
  have e : ∀ z, prs y k (m ++ [a] ++ [z]) = prs y k m ++ [⟨a, y, z - a, k⟩] := fun z => by rw [List.append_assoc, prs_append _ hm]; rfl
  rw [rstep, if_neg (by rw [h]; decide), e, e, List.getLast?_append]
  simp only [List.getLast?_singleton, Option.some_or]
  rw [if_pos (by omega), List.dropLast_append_of_ne_nil (by simp)]
  simp

theorem rgo_prs {F : Int → Bool} {y h : Int} : ∀ (t : List Int) (x : Int) (p : Bool) (es : List Int), (x :: t).Pairwise (· < ·) → F ((x :: t).getLast (by simp)) = false → es.length % 2 = (if p then 1 else 0) → (∀ e ∈ es, e < x) →
    rgo F y h (prs y h (es ++ if p then [x] else [])) (x :: t) = prs y h (es ++ chg F p (x :: t))
  | [], x, p, es, _, hF, h2, _ => by
    rw [rgo]
    · rw [List.getLast_singleton] at hF
      rw [chg, hF]
      cases p
      · simp [chg]
      · simp [chg]
    · intros; simp at *
  | x' :: t, x, p, es, hp, hF, h2, hl => by
    have hp' := List.pairwise_cons.1 hp
    have hx := hp'.1 x' (by simp)
    rw [List.getLast_cons (by simp)] at hF
    rw [rgo]
    cases hFx : F x
    · have ih := rgo_prs (y := y) (h := h) t x' false (es ++ if p then [x] else []) hp'.2 hF (by cases p <;> simp at h2 ⊢ <;> omega) (fun e he => by
        rcases List.mem_append.1 he with he | he
        · have := hl e he; omega
        · cases p
          · simp at he
          · simp at he; omega)
      rw [rstep_no hFx]
      simp only [Bool.false_eq_true, if_false, List.append_nil] at ih
      rw [ih, show chg F p (x :: x' :: t) = (if F x = p then chg F p (x' :: t) else x :: chg F (F x) (x' :: t)) from rfl, hFx, List.append_assoc]
      cases p <;> simp
    · cases p
      · have ih := rgo_prs (y := y) (h := h) t x' true (es ++ [x]) hp'.2 hF (by simp at h2 ⊢; omega) (fun e he => by
          rcases List.mem_append.1 he with he | he
          · have := hl e he; omega
          · simp at he; omega)
        simp only [Bool.false_eq_true, if_false, List.append_nil, if_true] at ih h2 ⊢
        rw [rstep_new hFx y h h2 hl x', chg, hFx]
        rw [List.append_assoc] at ih
        rw [show es ++ [x, x'] = es ++ ([x] ++ [x']) by rfl, ih]
        simp
      · have ih := rgo_prs (y := y) (h := h) t x' true es hp'.2 hF h2 (fun e he => by have := hl e he; omega)
        simp only [if_true] at ih h2 ⊢
        rw [rstep_on hFx y h h2 x', ih, show chg F true (x :: x' :: t) = (if F x = true then chg F true (x' :: t) else x :: chg F (F x) (x' :: t)) from rfl, hFx]
        simp

/-- A line's rectangles are those of its edges. -/
theorem row_prs {f : Bool → Bool → Bool} {a b : List Rc} (hf : f false false = false) (y h : Int) : rgo (fun x => f (pt a x y) (pt b x y)) y h [] (xsOf (a ++ b)) = prs y h (lin f a b y) := by
  rw [lin]
  cases hx : xsOf (a ++ b) with
  | nil => rfl
  | cons x t =>
    have := rgo_prs (F := fun x => f (pt a x y) (pt b x y)) (y := y) (h := h) t x false [] (by rw [← hx]; exact xs_rise _) ?_ rfl (by simp)
    · simpa [prs] using this
    · have key : ∀ l : List Rc, (∀ r ∈ l, r ∈ a ++ b) → pt l ((x :: t).getLast (by simp)) y = false := fun l hl => by
        rw [pt_no]
        intro r hr
        have h1 : r.x + r.w ∈ x :: t := by rw [← hx]; exact xs_mem.2 ⟨r, hl r hr, .inr rfl⟩
        have h2 : ∀ (m : List Int) (hm : m ≠ []), m.Pairwise (· < ·) → ∀ k ∈ m, k ≤ m.getLast hm := fun m => by
          induction m with
          | nil => intro hm; exact absurd rfl hm
          | cons c m ih =>
            intro hm hp k hk
            have hp' := List.pairwise_cons.1 hp
            by_cases e : m = []
            · subst e; simp at hk; subst hk; simp
            · rw [List.getLast_cons e]
              rcases List.mem_cons.1 hk with rfl | hk
              · have := hp'.1 _ (List.getLast_mem e); omega
              · exact ih e hp'.2 k hk
        have h3 := h2 (x :: t) (by simp) (by rw [← hx]; exact xs_rise _) _ h1
        cases hh : has r ((x :: t).getLast (by simp)) y
        · rfl
        · rw [has_iff] at hh; omega
      show f (pt a _ y) (pt b _ y) = false
      rw [key a (fun r hr => by simp [hr]), key b (fun r hr => by simp [hr]), hf]

/-- Two bands of the same X and W, one right below the other. -/
def alk (a b : List Rc) : Bool := match a, b with
  | p :: a, q :: b => decide (p.y + p.h = q.y) && (decide (a.length = b.length) && ((p :: a).zip (q :: b)).all fun u => decide (u.1.x = u.2.x) && decide (u.1.w = u.2.w))
  | _, _ => false
def grow (d : Int) (l : List Rc) : List Rc := l.map fun r => ⟨r.x, r.y, r.w, r.h + d⟩
theorem grow_prs (y h d : Int) : ∀ e, grow d (prs y h e) = prs y (h + d) e
  | [] => rfl
  | [_] => rfl
  | a :: b :: t => by
    rw [prs, prs, grow, List.map_cons]
    congr 1
    exact grow_prs y h d t

theorem prs_same {y h y' h' : Int} : ∀ {e e' : List Int}, e.length % 2 = 0 → e'.length % 2 = 0 → (((prs y h e).length = (prs y' h' e').length ∧ ((prs y h e).zip (prs y' h' e')).all (fun u => decide (u.1.x = u.2.x) && decide (u.1.w = u.2.w)) = true) ↔ e = e')
  | [], [], _, _ => by simp [prs]
  | [], [_], _, h => by simp at h
  | [], _ :: _ :: _, _, _ => by simp [prs]
  | [_], _, h, _ => by simp at h
  | _ :: _ :: _, [], _, _ => by simp [prs]
  | _ :: _ :: _, [_], _, h => by simp at h
  | a :: b :: t, a' :: b' :: t', h2, h2' => by
    have ih := prs_same (y := y) (h := h) (y' := y') (h' := h') (e := t) (e' := t') (by simpa [Nat.add_assoc] using h2) (by simpa [Nat.add_assoc] using h2')
    rw [prs, prs, List.zip_cons_cons, List.all_cons, List.length_cons, List.length_cons, Bool.and_eq_true, Bool.and_eq_true, decide_eq_true_eq, decide_eq_true_eq, List.cons.injEq, List.cons.injEq, ← ih]
    simp only
    constructor
    · rintro ⟨h1, ⟨h3, h4⟩, h5⟩
      exact ⟨h3, by omega, by omega, h5⟩
    · rintro ⟨h3, h4, h1, h5⟩
      exact ⟨by omega, ⟨h3, by omega⟩, h5⟩

theorem alk_prs {y0 y h : Int} {e e' : List Int} (he : e.length % 2 = 0) (he' : e'.length % 2 = 0) : alk (prs y0 (y - y0) e) (prs y h e') = decide (e = e' ∧ e ≠ []) := by
  have key := prs_same (y := y0) (h := y - y0) (y' := y) (h' := h) he he'
  match e, e', he, he' with
  | [], _, _, _ => simp [prs, alk]
  | [_], _, h, _ => simp at h
  | a :: b :: t, [], _, _ => simp [prs, alk]
  | a :: b :: t, [_], _, h => simp at h
  | a :: b :: t, a' :: b' :: t', _, _ =>
    rw [Bool.eq_iff_iff, decide_eq_true_eq, ← key]
    rw [prs, prs, alk, Bool.and_eq_true, Bool.and_eq_true, decide_eq_true_eq, decide_eq_true_eq]
    simp only [List.length_cons]
    constructor
    · rintro ⟨h1, h2, h3⟩
      exact ⟨⟨by omega, h3⟩, by simp⟩
    · rintro ⟨⟨h1, h2⟩, _⟩
      exact ⟨by omega, by omega, h2⟩

/-- The document's rows put together. -/
def mgo (R : Int → Int → List Rc) (l last : List Rc) : List Int → List Rc
  | y :: y' :: t => if alk last (R y y') = true then mgo R l (grow (y' - y) last) (y' :: t) else mgo R (l ++ last) (R y y') (y' :: t)
  | _ => l ++ last

theorem mgo_fin {E : Int → List Int} (hE : Edges E) {R : Int → Int → List Rc} (hR : ∀ y y', R y y' = prs y (y' - y) (E y)) : ∀ (t : List Int) (y : Int) (l : List Rc) (y0 : Int) (e : List Int), e.length % 2 = 0 → E ((y :: t).getLast (by simp)) = [] → mgo R l (prs y0 (y - y0) e) (y :: t) = l ++ fin E y0 e (y :: t)
  | [], y, l, y0, e, _, hl => by
    rw [List.getLast_singleton] at hl
    rw [mgo]
    · rw [fin, hl]
      by_cases h : e = []
      · subst h; rfl
      · rw [if_neg (fun h' => h h'.symm), fin, List.append_nil]
    · intros; simp at *
  | y' :: t, y, l, y0, e, he, hl => by
    rw [List.getLast_cons (by simp)] at hl
    rw [mgo, hR, alk_prs he (hE.even y), fin]
    by_cases h : E y = e
    · rw [if_pos h]
      by_cases h' : e = []
      · rw [if_neg (by simp [h'])]
        have := mgo_fin hE hR t y' l y0 e he hl
        rw [← this, h', h, h']
        simp [prs]
      · rw [if_pos (by simp [h, h']), grow_prs, show y - y0 + (y' - y) = y' - y0 by omega]
        exact mgo_fin hE hR t y' l y0 e he hl
    · rw [if_neg h, if_neg (by simp; intro h'; exact absurd h'.symm h), mgo_fin hE hR t y' _ y (E y) (hE.even y) hl, List.append_assoc]

/-- The document's own is what comes of both. -/
theorem mgo_mk {f : Bool → Bool → Bool} {a b : List Rc} (hf : f false false = false) (ha : ∀ r ∈ a, Ck r) (hb : ∀ r ∈ b, Ck r) : mgo (fun y y' => rgo (fun x => f (pt a x y) (pt b x y)) y (y' - y) [] (xsOf (a ++ b))) [] [] (ysOf (a ++ b)) = mk f a b := by
  rw [mk]
  cases hy : ysOf (a ++ b) with
  | nil => rfl
  | cons y t =>
    have hl : lin f a b ((y :: t).getLast (by simp)) = [] := by
      have hT := lin_turns hf ha hb
      rw [hy] at hT
      have key : ∀ (ys : List Int) (hn : ys ≠ []) (y0 : Int) (e : List Int), Turns (lin f a b) y0 e ys → lin f a b (ys.getLast hn) = [] := fun ys => by
        induction ys with
        | nil => intro hn; exact absurd rfl hn
        | cons c m ih =>
          intro hn y0 e h
          obtain ⟨h1, h2, h3⟩ := h
          cases m with
          | nil => exact h3 c (Int.le_refl _)
          | cons d m => rw [List.getLast_cons (by simp)]; exact ih (by simp) _ _ h3
      exact key _ (by simp) _ _ hT
    have := mgo_fin (lin_edges hf ha hb) (R := fun y y' => rgo (fun x => f (pt a x y) (pt b x y)) y (y' - y) [] (xsOf (a ++ b))) (fun y y' => row_prs hf y (y' - y)) t y [] (-16777217) [] rfl hl
    simpa [prs] using this

/-- The program's rows: where the edges turn. -/
def rows (E : Int → List Int) : List Int → List Int → List (Int × List Int)
  | _, [] => []
  | e, y :: t => if E y = e then rows E e t else (y, E y) :: rows E (E y) t
/-- The rows' rectangles. -/
def bnds : List (Int × List Int) → List Rc
  | (y, e) :: (y', e') :: t => prs y (y' - y) e ++ bnds ((y', e') :: t)
  | _ => []
theorem rows_fin (E : Int → List Int) : ∀ (ys : List Int) (y0 : Int) (e : List Int), bnds ((y0, e) :: rows E e ys) = fin E y0 e ys
  | [], _, _ => rfl
  | y :: t, y0, e => by
    rw [rows, fin]
    split
    · exact rows_fin E t y0 e
    · rw [bnds, rows_fin E t y (E y)]
theorem bnds_start (y0 : Int) (l : List (Int × List Int)) : bnds ((y0, []) :: l) = bnds l := by
  cases l with
  | nil => rfl
  | cons a l => rw [bnds]; rfl
/-- The program's own is what comes of both. -/
theorem rows_mk {f : Bool → Bool → Bool} {a b : List Rc} (hf : f false false = false) (ha : Bands a) (hb : Bands b) : bnds (rows (fun y => mix f false false false (rowE a y) (rowE b y)) [] (ysOf (a ++ b))) = mk f a b := by
  rw [← bnds_start (-16777217), rows_fin, mk]
  exact fin_congr (fun z => mix_lin hf ha hb z) _ _ _

end Go.Proofs.Ytlkodgmnhphfcaa
