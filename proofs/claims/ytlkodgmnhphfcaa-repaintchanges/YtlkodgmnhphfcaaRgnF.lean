/- What the program's and the document's Check tell. No program. -/
import Derived.Test.YtlkodgmnhphfcaaRgnE
namespace Go.Proofs.Ytlkodgmnhphfcaa
open Go Go.RowKit

theorem aft_trans {a b c : Rc} (kb : Ck b) (h : Aft a b) (h' : Aft b c) : Aft a c := by
  have := kb.h
  have := kb.w
  rcases h with ⟨h1, h2, h3⟩ | h1 <;> rcases h' with ⟨g1, g2, g3⟩ | g1
  · exact .inl ⟨by omega, by omega, by omega⟩
  · exact .inr (by omega)
  · exact .inr (by omega)
  · exact .inr (by omega)

/-- r may stand right behind a. -/
def flw (a r : Rc) : Bool := if r.y = a.y then decide (r.h = a.h) && decide (a.x + a.w < r.x) else decide (a.y + a.h ≤ r.y)
def chn : List Rc → Bool
  | a :: b :: t => flw a b && chn (b :: t)
  | _ => true
theorem flw_iff {a r : Rc} (ka : Ck a) : flw a r = true ↔ Aft a r := by
  have := ka.h
  unfold flw Aft
  split
  · rename_i h
    rw [Bool.and_eq_true, decide_eq_true_eq, decide_eq_true_eq]
    constructor
    · rintro ⟨h1, h2⟩; exact .inl ⟨h, h1, h2⟩
    · rintro (⟨_, h1, h2⟩ | h1)
      · exact ⟨h1, h2⟩
      · omega
  · rename_i h
    rw [decide_eq_true_eq]
    constructor
    · intro h1; exact .inr h1
    · rintro (⟨h1, _⟩ | h1)
      · exact absurd h1 h
      · exact h1
theorem chn_iff : ∀ {l : List Rc}, (∀ r ∈ l, Ck r) → (chn l = true ↔ l.Pairwise Aft)
  | [], _ => by simp [chn]
  | [_], _ => by simp [chn]
  | a :: b :: t, hk => by
    rw [chn, Bool.and_eq_true, flw_iff (hk a (by simp)), chn_iff (fun r hr => hk r (by simp [hr])), List.pairwise_cons (a := a)]
    constructor
    · rintro ⟨h1, h2⟩
      refine ⟨fun c hc => ?_, h2⟩
      rcases List.mem_cons.1 hc with rfl | hc
      · exact h1
      · exact aft_trans (hk b (by simp)) h1 ((List.pairwise_cons.1 h2).1 c hc)
    · rintro ⟨h1, h2⟩
      exact ⟨h1 b (by simp), h2⟩

/-- The first band, and what is behind it. -/
def band (r : Rc) (t : List Rc) : List Rc := r :: t.takeWhile fun a => decide (a.y = r.y)
def behind (r : Rc) (t : List Rc) : List Rc := t.dropWhile fun a => decide (a.y = r.y)
theorem band_behind (r : Rc) (t : List Rc) : band r t ++ behind r t = r :: t := by rw [band, behind, List.cons_append, List.takeWhile_append_dropWhile]
theorem behind_length (r : Rc) (t : List Rc) : (behind r t).length ≤ t.length := by
  have := congrArg List.length (List.takeWhile_append_dropWhile (p := fun a => decide (a.y = r.y)) (l := t))
  rw [List.length_append] at this
  rw [behind]
  omega

def tch (above : List Rc) (y : Int) : Bool := match above with
  | a :: _ => decide (a.y + a.h = y)
  | [] => false
def eqs (a b : List Rc) : Bool := decide (a.length = b.length) && (a.zip b).all fun u => decide (u.1.x = u.2.x) && decide (u.1.w = u.2.w)
/-- No band is like the one that it touches. -/
def prt (above : List Rc) (l : List Rc) : Bool := match l with
  | [] => true
  | r :: t => if tch above r.y = true ∧ eqs above (band r t) = true then false else prt (band r t) (behind r t)
  termination_by l.length
  decreasing_by
    have := behind_length r t
    simp only [List.length_cons]
    omega

theorem eqs_iff {a b : List Rc} : eqs a b = true ↔ spans a = spans b := by
  induction a generalizing b with
  | nil =>
    cases b with
    | nil => simp [eqs, spans]
    | cons q b => simp [eqs, spans]
  | cons p a ih =>
    cases b with
    | nil => simp [eqs, spans]
    | cons q b =>
      have := ih (b := b)
      simp only [eqs, Bool.and_eq_true, decide_eq_true_eq] at this ⊢
      rw [spans_cons, spans_cons, List.cons.injEq, List.cons.injEq, ← this, List.zip_cons_cons, List.all_cons, List.length_cons, List.length_cons, Bool.and_eq_true, Bool.and_eq_true, decide_eq_true_eq, decide_eq_true_eq]
      simp only
      constructor
      · rintro ⟨h1, ⟨h3, h4⟩, h5⟩
        exact ⟨h3, by omega, by omega, h5⟩
      · rintro ⟨h3, h4, h1, h5⟩
        exact ⟨by omega, ⟨h3, by omega⟩, h5⟩

theorem band_y {r : Rc} {t : List Rc} : ∀ a ∈ band r t, a.y = r.y := fun a ha => by
  rcases List.mem_cons.1 ha with rfl | ha
  · rfl
  · have := List.all_takeWhile (p := fun a : Rc => decide (a.y = r.y)) (l := t)
    rw [List.all_eq_true] at this
    simpa using this a ha
theorem behind_head {r : Rc} {t : List Rc} {q : Rc} {m : List Rc} (h : behind r t = q :: m) : q.y ≠ r.y := by
  have := List.head?_dropWhile_not (fun a : Rc => decide (a.y = r.y)) t
  rw [behind] at h
  rw [h] at this
  simpa using this

theorem Bands.low {l : List Rc} (h : Bands l) : l.Pairwise fun a b => a.y ≤ b.y := h.aft.imp_of_mem fun {a b} ha _ hr => by
  have := (h.ck a ha).h
  rcases hr with ⟨_, _, _⟩ | _ <;> omega
theorem Bands.right {a b : List Rc} (h : Bands (a ++ b)) : Bands b := ⟨fun r hr => h.ck r (by simp [hr]), (List.pairwise_append.1 h.aft).2.1⟩

/-- Behind a band all is below it. -/
theorem band_sep {r : Rc} {t : List Rc} (h : Bands (r :: t)) : ∀ a ∈ band r t, a.h = r.h ∧ ∀ b ∈ behind r t, a.y + a.h ≤ b.y := by
  have hb := h.aft
  rw [← band_behind, List.pairwise_append] at hb
  have kr := h.ck r (by simp)
  intro a ha
  have hm : a ∈ r :: t := by rw [← band_behind]; simp [ha]
  have ey := band_y a ha
  have ka := h.ck a hm
  have k1 := ka.h
  have k2 := kr.h
  constructor
  · obtain ⟨_, e, _⟩ := h.meet hm (by simp : r ∈ r :: t) (y := r.y) ⟨by omega, by omega⟩ ⟨by omega, by omega⟩
    exact e
  · intro b hb'
    cases hq : behind r t with
    | nil => rw [hq] at hb'; cases hb'
    | cons q m =>
      have hne := behind_head hq
      rw [hq] at hb hb'
      have h1 := hb.2.2 a ha q (by simp)
      have h2 : a.y + a.h ≤ q.y := by
        rcases h1 with ⟨g1, _, _⟩ | g1
        · omega
        · exact g1
      rcases List.mem_cons.1 hb' with rfl | hb'
      · exact h2
      · have kq : Ck q := h.ck q (by rw [← band_behind, hq]; simp)
        have k3 := kq.h
        rcases (List.pairwise_cons.1 hb.2.1).1 b hb' with ⟨g1, _, _⟩ | g1 <;> omega

theorem filter_none {α : Type} {p : α → Bool} {l : List α} (h : ∀ a ∈ l, p a = false) : l.filter p = [] := by
  rw [List.filter_eq_nil_iff]
  intro a ha
  rw [h a ha]
  decide
theorem filter_whole {α : Type} {p : α → Bool} {l : List α} (h : ∀ a ∈ l, p a = true) : l.filter p = l := List.filter_eq_self.2 h

theorem lies_no {y : Int} {r : Rc} (h : ¬ (r.y ≤ y ∧ y < r.y + r.h)) : lies y r = false := by
  rw [← Bool.not_eq_true, lies_iff]
  exact h

theorem prt_iff (n : Nat) : ∀ (rest : List Rc), rest.length ≤ n → ∀ (pre above : List Rc), Bands (pre ++ rest) → (∀ a ∈ pre, ∀ b ∈ rest, a.y + a.h ≤ b.y) → (∀ a ∈ above, ∀ b ∈ above, a.y = b.y ∧ a.h = b.h) → (∀ a ∈ above, a ∈ pre) →
    (∀ z, (∀ a ∈ above, a.y ≤ z) → (∀ b ∈ rest, z < b.y) → (pre ++ rest).filter (lies z) = above.filter (lies z)) →
    (prt above rest = true ↔ ∀ r ∈ rest, rowE (pre ++ rest) (r.y - 1) ≠ rowE (pre ++ rest) r.y) := by
  induction n with
  | zero =>
    intro rest hn pre above _ _ _ _ _
    obtain rfl : rest = [] := List.eq_nil_of_length_eq_zero (by omega)
    rw [prt]
    simp
  | succ n ih =>
    intro rest hn pre above hB hsep hsame hin hinv
    cases rest with
    | nil => rw [prt]; simp
    | cons r t =>
      have hbr := hB.right
      have kr := hbr.ck r (by simp)
      have k1 := kr.h
      have hlow : ∀ b ∈ r :: t, r.y ≤ b.y := fun b hb => by
        rcases List.mem_cons.1 hb with rfl | hb
        · exact Int.le_refl _
        · exact (List.pairwise_cons.1 hbr.low).1 b hb
      have hs := band_sep hbr
      -- the line of the band
      have hrow : ∀ z, r.y ≤ z → (∀ b ∈ behind r t, z < b.y) → (pre ++ (r :: t)).filter (lies z) = (band r t).filter (lies z) := fun z hz hb => by
        rw [List.filter_append, filter_none (l := pre) fun a ha => lies_no (by have := hsep a ha r (by simp); omega), List.nil_append, ← band_behind, List.filter_append, filter_none (l := behind r t) fun a ha => lies_no (by have := hb a ha; omega), List.append_nil]
      have e1 : rowE (pre ++ (r :: t)) r.y = spans (band r t) := by
        rw [rowE, hrow r.y (Int.le_refl _) (fun b hb => by have := (hs r (by simp [band])).2 b hb; omega), filter_whole]
        intro a ha
        rw [lies_iff, band_y a ha, (hs a ha).1]
        omega
      have e2 : rowE (pre ++ (r :: t)) (r.y - 1) = if tch above r.y = true then spans above else [] := by
        rw [rowE, hinv (r.y - 1) (fun a ha => by
          have h1 := hsep a (hin a ha) r (by simp)
          have h2 := (hB.ck a (by simp [hin a ha])).h
          omega) (fun b hb => by have := hlow b hb; omega)]
        cases above with
        | nil => simp [tch, spans]
        | cons a m =>
          have ka := (hB.ck a (by simp [hin a (by simp)])).h
          have h1 := hsep a (hin a (by simp)) r (by simp)
          by_cases ht : a.y + a.h = r.y
          · rw [if_pos (by simp [tch, ht]), filter_whole]
            intro c hc
            obtain ⟨g1, g2⟩ := hsame c hc a (by simp)
            rw [lies_iff]
            omega
          · rw [if_neg (by simp [tch, ht]), filter_none]
            · rfl
            · intro c hc
              obtain ⟨g1, g2⟩ := hsame c hc a (by simp)
              exact lies_no (by omega)
      have hsplit : pre ++ (r :: t) = (pre ++ band r t) ++ behind r t := by rw [List.append_assoc, band_behind]
      have hL := behind_length r t
      have hnext := ih (behind r t) (by simp at hn; omega) (pre ++ band r t) (band r t) (by rw [← hsplit]; exact hB) (fun a ha b hb => by
        rcases List.mem_append.1 ha with ha | ha
        · exact hsep a ha b (by rw [← band_behind]; simp [hb])
        · exact (hs a ha).2 b hb) (fun a ha b hb => ⟨by rw [band_y a ha, band_y b hb], by rw [(hs a ha).1, (hs b hb).1]⟩) (fun a ha => by simp [ha]) (fun z h1 h2 => by
          rw [← hsplit]
          exact hrow z (h1 r (by simp [band])) h2)
      rw [← hsplit] at hnext
      have hall : (∀ q ∈ r :: t, rowE (pre ++ (r :: t)) (q.y - 1) ≠ rowE (pre ++ (r :: t)) q.y) ↔ (rowE (pre ++ (r :: t)) (r.y - 1) ≠ rowE (pre ++ (r :: t)) r.y ∧ ∀ q ∈ behind r t, rowE (pre ++ (r :: t)) (q.y - 1) ≠ rowE (pre ++ (r :: t)) q.y) := by
        constructor
        · intro h
          exact ⟨h r (by simp), fun q hq => h q (by rw [← band_behind]; simp [hq])⟩
        · rintro ⟨h1, h2⟩ q hq
          rw [← band_behind] at hq
          rcases List.mem_append.1 hq with hq | hq
          · rw [band_y q hq]; exact h1
          · exact h2 q hq
      rw [hall, prt, e1, e2, ← hnext]
      have hne : spans (band r t) ≠ [] := by rw [band, spans_cons]; simp
      by_cases ht : tch above r.y = true
      · rw [if_pos ht]
        by_cases he : eqs above (band r t) = true
        · rw [if_pos ⟨ht, he⟩]
          simp [eqs_iff.1 he]
        · rw [if_neg fun h => he h.2]
          exact ⟨fun h => ⟨fun h' => he (eqs_iff.2 h'), h⟩, fun h => h.2⟩
      · rw [if_neg ht, if_neg fun h => ht h.1]
        exact ⟨fun h => ⟨fun h' => hne h'.symm, h⟩, fun h => h.2⟩

theorem reg_iff {l : List Rc} : Reg l ↔ Bands l ∧ ∀ r ∈ l, rowE l (r.y - 1) ≠ rowE l r.y := by
  constructor
  · intro h
    refine ⟨h.bands, fun r hr e => ?_⟩
    obtain ⟨x, hx⟩ := h.top r hr
    rw [← rowE_par h.bands, ← rowE_par h.bands, e] at hx
    exact hx rfl
  · rintro ⟨h, h'⟩
    refine ⟨h.ck, h.aft, fun r hr => ?_⟩
    refine Classical.byContradiction fun hc => h' r hr (par_eq (rowE_rise h _) (rowE_rise h _) fun x => ?_)
    rw [rowE_par h, rowE_par h]
    exact Classical.byContradiction fun h => hc ⟨x, h⟩

/-- The program's Check. -/
theorem chk_reg {l : List Rc} (hk : ∀ r ∈ l, Ck r) : (chn l = true ∧ prt [] l = true) ↔ Reg l := by
  rw [reg_iff, chn_iff hk]
  constructor
  · rintro ⟨h1, h2⟩
    have hB : Bands l := ⟨hk, h1⟩
    have := prt_iff l.length l (Nat.le_refl _) [] [] hB (by simp) (by simp) (by simp) (fun z _ hz => by
      rw [List.nil_append, List.filter_nil]
      exact filter_none fun a ha => lies_no (by have := hz a ha; omega))
    exact ⟨hB, this.1 h2⟩
  · rintro ⟨hB, h2⟩
    have := prt_iff l.length l (Nat.le_refl _) [] [] hB (by simp) (by simp) (by simp) (fun z _ hz => by
      rw [List.nil_append, List.filter_nil]
      exact filter_none fun a ha => lies_no (by have := hz a ha; omega))
    exact ⟨hB.aft, this.2 h2⟩

/-- The document's Check: what comes of it alone is itself. -/
theorem mk_reg {l : List Rc} (hk : ∀ r ∈ l, Ck r) : mk or l [] = l ↔ Reg l := by
  obtain ⟨h1, h2, _⟩ := mk_all (f := or) (a := l) (b := []) rfl hk (by simp)
  constructor
  · intro e; rw [← e]; exact h1
  · intro h
    exact reg_eq h1 h fun x y => by rw [h2, pt_nil, Bool.or_false]

/-- The bands that do not end above the line y. -/
def frm (l : List Rc) (y : Int) : List Rc := l.dropWhile fun r => decide (r.y + r.h ≤ y)
theorem frm_frm {l : List Rc} {y y' : Int} (h : y ≤ y') : frm (frm l y) y' = frm l y' := by
  unfold frm
  induction l with
  | nil => rfl
  | cons r l ih =>
    rw [List.dropWhile_cons]
    split
    · rename_i h1
      rw [ih, List.dropWhile_cons, if_pos (by simp at h1 ⊢; omega)]
    · rfl
def edg (l : List Rc) (y : Int) : List Int := match l with
  | [] => []
  | r :: t => if y < r.y then [] else spans (band r t)

theorem edg_row {l : List Rc} (h : Bands l) (y : Int) : edg (frm l y) y = rowE l y := by
  have hsplit := List.takeWhile_append_dropWhile (p := fun r : Rc => decide (r.y + r.h ≤ y)) (l := l)
  have hno : rowE l y = rowE (frm l y) y := by
    rw [rowE, rowE, frm]
    congr 1
    have e : l.filter (lies y) = (l.takeWhile (fun r : Rc => decide (r.y + r.h ≤ y)) ++ l.dropWhile (fun r : Rc => decide (r.y + r.h ≤ y))).filter (lies y) := by rw [hsplit]
    rw [e, List.filter_append, filter_none, List.nil_append]
    intro a ha
    have := List.all_takeWhile (p := fun r : Rc => decide (r.y + r.h ≤ y)) (l := l)
    rw [List.all_eq_true] at this
    have := of_decide_eq_true (this a ha)
    exact lies_no (by omega)
  have hB : Bands (frm l y) := by
    rw [frm]
    rw [← hsplit] at h
    exact h.right
  rw [hno]
  cases hl : frm l y with
  | nil => rfl
  | cons r t =>
    have hr : ¬ r.y + r.h ≤ y := by
      have := List.head?_dropWhile_not (fun r : Rc => decide (r.y + r.h ≤ y)) l
      rw [frm] at hl
      rw [hl] at this
      simpa using this
    rw [hl] at hB
    rw [edg]
    split
    · rename_i hy
      rw [rowE, filter_none]
      · rfl
      · intro a ha
        have : r.y ≤ a.y := by
          rcases List.mem_cons.1 ha with rfl | ha
          · exact Int.le_refl _
          · exact (List.pairwise_cons.1 hB.low).1 a ha
        exact lies_no (by omega)
    · rename_i hy
      have hs := band_sep hB
      rw [rowE, ← band_behind, List.filter_append, filter_whole, filter_none (l := behind r t), List.append_nil]
      · intro a ha
        have := (hs r (by simp [band])).2 a ha
        exact lies_no (by omega)
      · intro a ha
        rw [lies_iff, band_y a ha, (hs a ha).1]
        omega

end Go.Proofs.Ytlkodgmnhphfcaa
