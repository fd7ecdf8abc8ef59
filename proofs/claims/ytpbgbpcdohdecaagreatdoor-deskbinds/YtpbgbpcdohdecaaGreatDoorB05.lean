/- Lemmas that the proof leans on. -/
import Derived.Test.YtpbgbpcdohdecaaGreatDoorB04
import Derived.WalkSpells
import Derived.WalkLawsBesides
namespace Go.Proofs.YtpbgbpcdohdecaaGreatDoor
open Go Go.RowKit
set_option maxRecDepth 100000
section
theorem aft_trans {a b c : Rc} (kb : Ck b) (h : Aft a b) (h' : Aft b c) : Aft a c := by
 have := kb.h
 have := kb.w
 rcases h with ⟨h1, h2, h3⟩ | h1 <;> rcases h' with ⟨g1, g2, g3⟩ | g1
 ·exact .inl ⟨by omega, by omega, by omega⟩
 ·exact .inr (by omega)
 ·exact .inr (by omega)
 ·exact .inr (by omega)
def flw (a r : Rc) : Bool := if r.y = a.y then decide (r.h = a.h) && decide (a.x + a.w < r.x) else decide (a.y + a.h ≤ r.y)
def chn : List Rc → Bool
 | a :: b :: t => flw a b && chn (b :: t)
 | _ => true
theorem flw_iff {a r : Rc} (ka : Ck a) : flw a r = true ↔ Aft a r := by
 have := ka.h
 unfold flw Aft
 split
 ·rename_i h
  rw [Bool.and_eq_true, decide_eq_true_eq, decide_eq_true_eq]
  constructor
  ·rintro ⟨h1, h2⟩; exact .inl ⟨h, h1, h2⟩
  ·rintro (⟨_, h1, h2⟩ | h1)
   ·exact ⟨h1, h2⟩
   ·omega
 ·rename_i h
  rw [decide_eq_true_eq]
  constructor
  ·intro h1; exact .inr h1
  ·rintro (⟨h1, _⟩ | h1)
   ·exact absurd h1 h
   ·exact h1
theorem chn_iff : ∀ {l : List Rc}, (∀ r ∈ l, Ck r) → (chn l = true ↔ l.Pairwise Aft)
 | [], _ => by simp [chn]
 | [_], _ => by simp [chn]
 | a :: b :: t, hk => by
  rw [chn, Bool.and_eq_true, flw_iff (hk a (by simp)), chn_iff (fun r hr => hk r (by simp [hr])), List.pairwise_cons (a := a)]
  constructor
  ·rintro ⟨h1, h2⟩
   refine ⟨fun c hc => ?_, h2⟩
   rcases List.mem_cons.1 hc with rfl | hc
   ·exact h1
   ·exact aft_trans (hk b (by simp)) h1 ((List.pairwise_cons.1 h2).1 c hc)
  ·rintro ⟨h1, h2⟩
   exact ⟨h1 b (by simp), h2⟩
def band (r : Rc) (t : List Rc) : List Rc := r :: t.takeWhile fun a => decide (a.y = r.y)
def behind (r : Rc) (t : List Rc) : List Rc := t.dropWhile fun a => decide (a.y = r.y)
theorem band_behind (r : Rc) (t : List Rc) : band r t ++ behind r t = r :: t := by rw [band, behind, List.cons_append, List.takeWhile_append_dropWhile]
theorem behind_length (r : Rc) (t : List Rc) : (behind r t).length ≤ t.length := by
 have := congrArg List.length (List.takeWhile_append_dropWhile (p := fun a => decide (a.y = r.y)) (l := t))
 rw [List.length_append] at this
 rw [behind]
 omega
def tch (above : List Rc) (y : Int) : Bool := match above with
 | a :: _ => decide (a.y + a.h = y)
 | [] => false
def eqs (a b : List Rc) : Bool := decide (a.length = b.length) && (a.zip b).all fun u => decide (u.1.x = u.2.x) && decide (u.1.w = u.2.w)
def prt (above : List Rc) (l : List Rc) : Bool := match l with
 | [] => true
 | r :: t => if tch above r.y = true ∧ eqs above (band r t) = true then false else prt (band r t) (behind r t)
 termination_by l.length
 decreasing_by
  have := behind_length r t
  simp only [List.length_cons]
  omega
theorem eqs_iff {a b : List Rc} : eqs a b = true ↔ spans a = spans b := by
 induction a generalizing b with
 | nil =>
  cases b with
  | nil => simp [eqs, spans]
  | cons q b => simp [eqs, spans]
 | cons p a ih =>
  cases b with
  | nil => simp [eqs, spans]
  | cons q b =>
   have := ih (b := b)
   simp only [eqs, Bool.and_eq_true, decide_eq_true_eq] at this ⊢
   rw [spans_cons, spans_cons, List.cons.injEq, List.cons.injEq, ← this, List.zip_cons_cons, List.all_cons, List.length_cons, List.length_cons, Bool.and_eq_true, Bool.and_eq_true, decide_eq_true_eq, decide_eq_true_eq]
   simp only
   constructor
   ·rintro ⟨h1, ⟨h3, h4⟩, h5⟩
    exact ⟨h3, by omega, by omega, h5⟩
   ·rintro ⟨h3, h4, h1, h5⟩
    exact ⟨by omega, ⟨h3, by omega⟩, h5⟩
theorem band_y {r : Rc} {t : List Rc} : ∀ a ∈ band r t, a.y = r.y := fun a ha => by
 rcases List.mem_cons.1 ha with rfl | ha
 ·rfl
 ·have := List.all_takeWhile (p := fun a : Rc => decide (a.y = r.y)) (l := t)
  rw [List.all_eq_true] at this
  simpa using this a ha
theorem behind_head {r : Rc} {t : List Rc} {q : Rc} {m : List Rc} (h : behind r t = q :: m) : q.y ≠ r.y := by
 have := List.head?_dropWhile_not (fun a : Rc => decide (a.y = r.y)) t
 rw [behind] at h
 rw [h] at this
 simpa using this
theorem Bands.low {l : List Rc} (h : Bands l) : l.Pairwise fun a b => a.y ≤ b.y := h.aft.imp_of_mem fun {a b} ha _ hr => by
 have := (h.ck a ha).h
 rcases hr with ⟨_, _, _⟩ | _ <;> omega
theorem Bands.right {a b : List Rc} (h : Bands (a ++ b)) : Bands b := ⟨fun r hr => h.ck r (by simp [hr]), (List.pairwise_append.1 h.aft).2.1⟩
theorem band_sep {r : Rc} {t : List Rc} (h : Bands (r :: t)) : ∀ a ∈ band r t, a.h = r.h ∧ ∀ b ∈ behind r t, a.y + a.h ≤ b.y := by
 have hb := h.aft
 rw [← band_behind, List.pairwise_append] at hb
 have kr := h.ck r (by simp)
 intro a ha
 have hm : a ∈ r :: t := by rw [← band_behind]; simp [ha]
 have ey := band_y a ha
 have ka := h.ck a hm
 have k1 := ka.h
 have k2 := kr.h
 constructor
 ·obtain ⟨_, e, _⟩ := h.meet hm (by simp : r ∈ r :: t) (y := r.y) ⟨by omega, by omega⟩ ⟨by omega, by omega⟩
  exact e
 ·intro b hb'
  cases hq : behind r t with
  | nil => rw [hq] at hb'; cases hb'
  | cons q m =>
   have hne := behind_head hq
   rw [hq] at hb hb'
   have h1 := hb.2.2 a ha q (by simp)
   have h2 : a.y + a.h ≤ q.y := by
    rcases h1 with ⟨g1, _, _⟩ | g1
    ·omega
    ·exact g1
   rcases List.mem_cons.1 hb' with rfl | hb'
   ·exact h2
   ·have kq : Ck q := h.ck q (by rw [← band_behind, hq]; simp)
    have k3 := kq.h
    rcases (List.pairwise_cons.1 hb.2.1).1 b hb' with ⟨g1, _, _⟩ | g1 <;> omega
theorem filter_none {α : Type} {p : α → Bool} {l : List α} (h : ∀ a ∈ l, p a = false) : l.filter p = [] := by
 rw [List.filter_eq_nil_iff]
 intro a ha
 rw [h a ha]
 decide
theorem filter_whole {α : Type} {p : α → Bool} {l : List α} (h : ∀ a ∈ l, p a = true) : l.filter p = l := List.filter_eq_self.2 h
theorem lies_no {y : Int} {r : Rc} (h : ¬ (r.y ≤ y ∧ y < r.y + r.h)) : lies y r = false := by
 rw [← Bool.not_eq_true, lies_iff]
 exact h
theorem prt_iff (n : Nat) : ∀ (rest : List Rc), rest.length ≤ n → ∀ (pre above : List Rc), Bands (pre ++ rest) → (∀ a ∈ pre, ∀ b ∈ rest, a.y + a.h ≤ b.y) → (∀ a ∈ above, ∀ b ∈ above, a.y = b.y ∧ a.h = b.h) → (∀ a ∈ above, a ∈ pre) →
  (∀ z, (∀ a ∈ above, a.y ≤ z) → (∀ b ∈ rest, z < b.y) → (pre ++ rest).filter (lies z) = above.filter (lies z)) →
  (prt above rest = true ↔ ∀ r ∈ rest, rowE (pre ++ rest) (r.y - 1) ≠ rowE (pre ++ rest) r.y) := by
 induction n with
 | zero =>
  intro rest hn pre above _ _ _ _ _
  obtain rfl : rest = [] := List.eq_nil_of_length_eq_zero (by omega)
  rw [prt]
  simp
 | succ n ih =>
  intro rest hn pre above hB hsep hsame hin hinv
  cases rest with
  | nil => rw [prt]; simp
  | cons r t =>
   have hbr := hB.right
   have kr := hbr.ck r (by simp)
   have k1 := kr.h
   have hlow : ∀ b ∈ r :: t, r.y ≤ b.y := fun b hb => by
    rcases List.mem_cons.1 hb with rfl | hb
    ·exact Int.le_refl _
    ·exact (List.pairwise_cons.1 hbr.low).1 b hb
   have hs := band_sep hbr
   have hrow : ∀ z, r.y ≤ z → (∀ b ∈ behind r t, z < b.y) → (pre ++ (r :: t)).filter (lies z) = (band r t).filter (lies z) := fun z hz hb => by
    rw [List.filter_append, filter_none (l := pre) fun a ha => lies_no (by have := hsep a ha r (by simp); omega), List.nil_append, ← band_behind, List.filter_append, filter_none (l := behind r t) fun a ha => lies_no (by have := hb a ha; omega), List.append_nil]
   have e1 : rowE (pre ++ (r :: t)) r.y = spans (band r t) := by
    rw [rowE, hrow r.y (Int.le_refl _) (fun b hb => by have := (hs r (by simp [band])).2 b hb; omega), filter_whole]
    intro a ha
    rw [lies_iff, band_y a ha, (hs a ha).1]
    omega
   have e2 : rowE (pre ++ (r :: t)) (r.y - 1) = if tch above r.y = true then spans above else [] := by
    rw [rowE, hinv (r.y - 1) (fun a ha => by
     have h1 := hsep a (hin a ha) r (by simp)
     have h2 := (hB.ck a (by simp [hin a ha])).h
     omega) (fun b hb => by have := hlow b hb; omega)]
    cases above with
    | nil => simp [tch, spans]
    | cons a m =>
     have ka := (hB.ck a (by simp [hin a (by simp)])).h
     have h1 := hsep a (hin a (by simp)) r (by simp)
     by_cases ht : a.y + a.h = r.y
     ·rw [if_pos (by simp [tch, ht]), filter_whole]
      intro c hc
      obtain ⟨g1, g2⟩ := hsame c hc a (by simp)
      rw [lies_iff]
      omega
     ·rw [if_neg (by simp [tch, ht]), filter_none]
      ·rfl
      ·intro c hc
       obtain ⟨g1, g2⟩ := hsame c hc a (by simp)
       exact lies_no (by omega)
   have hsplit : pre ++ (r :: t) = (pre ++ band r t) ++ behind r t := by rw [List.append_assoc, band_behind]
   have hL := behind_length r t
   have hnext := ih (behind r t) (by simp at hn; omega) (pre ++ band r t) (band r t) (by rw [← hsplit]; exact hB) (fun a ha b hb => by
    rcases List.mem_append.1 ha with ha | ha
    ·exact hsep a ha b (by rw [← band_behind]; simp [hb])
    ·exact (hs a ha).2 b hb) (fun a ha b hb => ⟨by rw [band_y a ha, band_y b hb], by rw [(hs a ha).1, (hs b hb).1]⟩) (fun a ha => by simp [ha]) (fun z h1 h2 => by
     rw [← hsplit]
     exact hrow z (h1 r (by simp [band])) h2)
   rw [← hsplit] at hnext
   have hall : (∀ q ∈ r :: t, rowE (pre ++ (r :: t)) (q.y - 1) ≠ rowE (pre ++ (r :: t)) q.y) ↔ (rowE (pre ++ (r :: t)) (r.y - 1) ≠ rowE (pre ++ (r :: t)) r.y ∧ ∀ q ∈ behind r t, rowE (pre ++ (r :: t)) (q.y - 1) ≠ rowE (pre ++ (r :: t)) q.y) := by
    constructor
    ·intro h
     exact ⟨h r (by simp), fun q hq => h q (by rw [← band_behind]; simp [hq])⟩
    ·rintro ⟨h1, h2⟩ q hq
     rw [← band_behind] at hq
     rcases List.mem_append.1 hq with hq | hq
     ·rw [band_y q hq]; exact h1
     ·exact h2 q hq
   rw [hall, prt, e1, e2, ← hnext]
   have hne : spans (band r t) ≠ [] := by rw [band, spans_cons]; simp
   by_cases ht : tch above r.y = true
   ·rw [if_pos ht]
    by_cases he : eqs above (band r t) = true
    ·rw [if_pos ⟨ht, he⟩]
     simp [eqs_iff.1 he]
    ·rw [if_neg fun h => he h.2]
     exact ⟨fun h => ⟨fun h' => he (eqs_iff.2 h'), h⟩, fun h => h.2⟩
   ·rw [if_neg ht, if_neg fun h => ht h.1]
    exact ⟨fun h => ⟨fun h' => hne h'.symm, h⟩, fun h => h.2⟩
theorem reg_iff {l : List Rc} : Reg l ↔ Bands l ∧ ∀ r ∈ l, rowE l (r.y - 1) ≠ rowE l r.y := by
 constructor
 ·intro h
  refine ⟨h.bands, fun r hr e => ?_⟩
  obtain ⟨x, hx⟩ := h.top r hr
  rw [← rowE_par h.bands, ← rowE_par h.bands, e] at hx
  exact hx rfl
 ·rintro ⟨h, h'⟩
  refine ⟨h.ck, h.aft, fun r hr => ?_⟩
  refine Classical.byContradiction fun hc => h' r hr (par_eq (rowE_rise h _) (rowE_rise h _) fun x => ?_)
  rw [rowE_par h, rowE_par h]
  exact Classical.byContradiction fun h => hc ⟨x, h⟩
theorem chk_reg {l : List Rc} (hk : ∀ r ∈ l, Ck r) : (chn l = true ∧ prt [] l = true) ↔ Reg l := by
 rw [reg_iff, chn_iff hk]
 constructor
 ·rintro ⟨h1, h2⟩
  have hB : Bands l := ⟨hk, h1⟩
  have := prt_iff l.length l (Nat.le_refl _) [] [] hB (by simp) (by simp) (by simp) (fun z _ hz => by
   rw [List.nil_append, List.filter_nil]
   exact filter_none fun a ha => lies_no (by have := hz a ha; omega))
  exact ⟨hB, this.1 h2⟩
 ·rintro ⟨hB, h2⟩
  have := prt_iff l.length l (Nat.le_refl _) [] [] hB (by simp) (by simp) (by simp) (fun z _ hz => by
   rw [List.nil_append, List.filter_nil]
   exact filter_none fun a ha => lies_no (by have := hz a ha; omega))
  exact ⟨hB.aft, this.2 h2⟩
def frm (l : List Rc) (y : Int) : List Rc := l.dropWhile fun r => decide (r.y + r.h ≤ y)
theorem frm_frm {l : List Rc} {y y' : Int} (h : y ≤ y') : frm (frm l y) y' = frm l y' := by
 unfold frm
 induction l with
 | nil => rfl
 | cons r l ih =>
  rw [List.dropWhile_cons]
  split
  ·rename_i h1
   rw [ih, List.dropWhile_cons, if_pos (by simp at h1 ⊢; omega)]
  ·rfl
def edg_RgnF (l : List Rc) (y : Int) : List Int := match l with
 | [] => []
 | r :: t => if y < r.y then [] else spans (band r t)
theorem edg_row {l : List Rc} (h : Bands l) (y : Int) : edg_RgnF (frm l y) y = rowE l y := by
 have hsplit := List.takeWhile_append_dropWhile (p := fun r : Rc => decide (r.y + r.h ≤ y)) (l := l)
 have hno : rowE l y = rowE (frm l y) y := by
  rw [rowE, rowE, frm]
  congr 1
  have e : l.filter (lies y) = (l.takeWhile (fun r : Rc => decide (r.y + r.h ≤ y)) ++ l.dropWhile (fun r : Rc => decide (r.y + r.h ≤ y))).filter (lies y) := by rw [hsplit]
  rw [e, List.filter_append, filter_none, List.nil_append]
  intro a ha
  have := List.all_takeWhile (p := fun r : Rc => decide (r.y + r.h ≤ y)) (l := l)
  rw [List.all_eq_true] at this
  have := of_decide_eq_true (this a ha)
  exact lies_no (by omega)
 have hB : Bands (frm l y) := by
  rw [frm]
  rw [← hsplit] at h
  exact h.right
 rw [hno]
 cases hl : frm l y with
 | nil => rfl
 | cons r t =>
  have hr : ¬ r.y + r.h ≤ y := by
   have := List.head?_dropWhile_not (fun r : Rc => decide (r.y + r.h ≤ y)) l
   rw [frm] at hl
   rw [hl] at this
   simpa using this
  rw [hl] at hB
  rw [edg_RgnF]
  split
  ·rename_i hy
   rw [rowE, filter_none]
   ·rfl
   ·intro a ha
    have : r.y ≤ a.y := by
     rcases List.mem_cons.1 ha with rfl | ha
     ·exact Int.le_refl _
     ·exact (List.pairwise_cons.1 hB.low).1 a ha
    exact lies_no (by omega)
  ·rename_i hy
   have hs := band_sep hB
   rw [rowE, ← band_behind, List.filter_append, filter_whole, filter_none (l := behind r t), List.append_nil]
   ·intro a ha
    have := (hs r (by simp [band])).2 a ha
    exact lies_no (by omega)
   ·intro a ha
    rw [lies_iff, band_y a ha, (hs a ha).1]
    omega
end
section
def one (b : Bool) : Int := if b = true then 1 else 0
theorem nodup_len {α : Type} [DecidableEq α] : ∀ {l m : List α}, l.Nodup → (∀ a ∈ l, a ∈ m) → l.length ≤ m.length
 | [], _, _, _ => Nat.zero_le _
 | a :: l, m, hn, hs => by
  rw [List.nodup_cons] at hn
  have ha := hs a (by simp)
  have := nodup_len (l := l) (m := m.erase a) hn.2 fun b hb => (List.mem_erase_of_ne (fun e => hn.1 (by rw [← e]; exact hb))).2 (hs b (by simp [hb]))
  rw [List.length_erase_of_mem ha] at this
  have := List.length_pos_of_mem ha
  rw [List.length_cons]
  omega
theorem grid_len {X Y : List Int} {l : List Rc} (h : Bands l) (g : Grid X Y l) : l.length ≤ X.length * Y.length := by
 have h1 : (l.map fun r => (r.x, r.y)).Nodup := by
  rw [List.nodup_iff_pairwise_ne, List.pairwise_map]
  refine h.aft.imp_of_mem fun {a b} ha hb hr e => ?_
  have k1 := (h.ck a ha).w
  have k2 := (h.ck a ha).h
  simp only [Prod.mk.injEq] at e
  rcases hr with ⟨_, _, _⟩ | _ <;> omega
 have h2 := nodup_len (m := X.flatMap fun x => Y.map fun y => (x, y)) h1 fun p hp => by
  obtain ⟨r, hr, rfl⟩ := List.mem_map.1 hp
  obtain ⟨g1, _, g3, _⟩ := g.all r hr
  exact List.mem_flatMap.2 ⟨r.x, g1, List.mem_map.2 ⟨r.y, g3, rfl⟩⟩
 rw [List.length_map] at h2
 refine Nat.le_trans h2 (Nat.le_of_eq ?_)
 clear h1 h2 g h
 induction X with
 | nil => simp
 | cons x X ih => rw [List.flatMap_cons, List.length_append, List.length_map, ih, List.length_cons, Nat.add_mul]; omega
theorem Grid.mono {X Y X' Y' : List Int} {l : List Rc} (g : Grid X Y l) (hX : ∀ x ∈ X, x ∈ X') (hY : ∀ y ∈ Y, y ∈ Y') : Grid X' Y' l := ⟨fun r hr => by
 obtain ⟨h1, h2, h3, h4⟩ := g.all r hr
 exact ⟨hX _ h1, hX _ h2, hY _ h3, hY _ h4⟩⟩
theorem Grid.append {X Y : List Int} {a b : List Rc} (ga : Grid X Y a) (gb : Grid X Y b) : Grid X Y (a ++ b) := ⟨fun r hr => by
 rcases List.mem_append.1 hr with hr | hr
 ·exact ga.all r hr
 ·exact gb.all r hr⟩
theorem grid_mk {f : Bool → Bool → Bool} {a b : List Rc} (hf : f false false = false) (ha : ∀ r ∈ a, Ck r) (hb : ∀ r ∈ b, Ck r) {X Y : List Int} (ga : Grid X Y a) (gb : Grid X Y b) : Grid X Y (mk f a b) := by
 refine (mk_all hf ha hb).2.2.mono (fun x hx => ?_) (fun y hy => ?_)
 ·obtain ⟨r, hr, h⟩ := xs_mem.1 hx
  obtain ⟨h1, h2, _, _⟩ := (ga.append gb).all r hr
  rcases h with rfl | rfl
  ·exact h1
  ·exact h2
 ·obtain ⟨r, hr, h⟩ := ys_mem.1 hy
  obtain ⟨_, _, h1, h2⟩ := (ga.append gb).all r hr
  rcases h with rfl | rfl
  ·exact h1
  ·exact h2
def ofl (r : Rc) : List Rc := if emp (bnd r) = true then [] else [bnd r]
theorem bnd_cases (r : Rc) : emp (bnd r) = true ∨ Ck (bnd r) := by
 cases he : emp r
 ·rw [bnd_full he, oft]
  split
  ·exact .inl rfl
  ·rename_i h
   unfold ed at h ⊢
   refine .inr ⟨?_, ?_, ?_, ?_, ?_, ?_⟩ <;> simp only <;> (repeat' split at h) <;> (repeat' split) <;> omega
 ·rw [bnd_emp he]; exact .inl rfl
theorem reg_nil : Reg [] := ⟨by simp, by simp, by simp⟩
theorem reg_one {r : Rc} (k : Ck r) : Reg [r] := by
 have := k.w
 have := k.h
 refine ⟨by simpa using k, by simp, fun a ha => ⟨r.x, ?_⟩⟩
 simp only [List.mem_singleton] at ha
 subst ha
 have h1 : pt [a] a.x a.y = true := pt_iff.2 ⟨a, by simp, has_iff.2 ⟨by omega, by omega, by omega, by omega, by omega, by omega⟩⟩
 have h2 : pt [a] a.x (a.y - 1) = false := by
  rw [pt_no]
  intro b hb
  simp only [List.mem_singleton] at hb
  subst hb
  cases hh : has b b.x (b.y - 1)
  ·rfl
  ·rw [has_iff] at hh; omega
 rw [h1, h2]
 decide
theorem ofl_reg (r : Rc) : Reg (ofl r) := by
 unfold ofl
 rcases bnd_cases r with h | h
 ·rw [if_pos h]; exact reg_nil
 ·rw [if_neg (by rw [h.emp]; decide)]; exact reg_one h
theorem ofl_grid (r : Rc) : Grid [(bnd r).x, (bnd r).x + (bnd r).w] [(bnd r).y, (bnd r).y + (bnd r).h] (ofl r) := ⟨fun a ha => by
 unfold ofl at ha
 split at ha
 ·cases ha
 ·simp only [List.mem_singleton] at ha
  subst ha
  simp⟩
end
section
theorem infoU8_WordA : (Tryz.prog.info? 5).map (fun i => (i.zero, i.size, i.bytes)) = some (some (.int .u8 0), 1, 1) := by kernel_rfl
theorem ret_int_WordA {k : IntKind} {a b : Int} (h : a = b) : Ending.returned (.int k a) = .returned (.int k b) := by rw [h]
theorem filled_any (n : Nat) (h : n ≤ 140737488355328) (w : World) :
  Calls Tryz.prog 235 #[.int .i64 n] w fun e w' => e = .returned (.int .i64 ((n + 3) / 4 * 4 : Nat)) ∧ w' = w := by
 go_enter Tryz.func235, Tryz.ntmps235
 go_wp2
 go_ret
 exact ⟨ret_int_WordA (by omega), rfl⟩
def le4 (v : Nat) : List UInt8 := [UInt8.ofNat v, UInt8.ofNat (v / 256), UInt8.ofNat (v / 65536), UInt8.ofNat (v / 16777216)]
theorem bc_le4 (v : Nat) (h : v < 4294967296) : bc (le4 v) = [.int .u8 ((v : Int) % 256), .int .u8 ((v : Int) / 256 % 256), .int .u8 ((v : Int) / 65536 % 256), .int .u8 ((v : Int) / 16777216)] := by
 simp only [bc, le4, List.map_cons, List.map_nil, UInt8.toNat_ofNat']
 congr 1
 congr 1
 congr 1
 congr 1
 congr 1
 omega
end
section
def num4 (l : List UInt8) (i : Nat) : Nat := (l.getD i 0).toNat + (l.getD (i + 1) 0).toNat * 256 + (l.getD (i + 2) 0).toNat * 65536 + (l.getD (i + 3) 0).toNat * 16777216
def getE (l : List UInt8) (p : Int) : Nat := if p < 0 ∨ (l.length : Int) < p then 1 else if (l.length : Int) - p < 4 then 2 else 0
def getV (l : List UInt8) (p : Int) : Nat := if getE l p = 0 then num4 l p.toNat else 0
theorem get_arg (w : World) (a : Option Addr) (n c : Nat) (v1 : Value) (h1 : w.cell? ⟨2, 0, none⟩ = some v1) (p : Int) (h : p < 0 ∨ (n : Int) < p) :
  Calls Tryz.prog 233 #[.slice a n c, .int .i64 p] w fun e w' => e = .returned (.tuple #[.int .u32 0, v1]) ∧ ∃ q, w' = w.drewN q := by
 rcases h with h | h
 ·go_enter Tryz.func233, Tryz.ntmps233
  go_wp2
  go_quiet (fail)
  go_wp2
  go_ret2
  exact ⟨rfl, _, rfl⟩
 ·have h0 : ¬ p < 0 := by omega
  go_enter Tryz.func233, Tryz.ntmps233
  go_wp2
  go_quiet (fail)
  go_wp2
  go_ret2
  exact ⟨rfl, _, rfl⟩
theorem get_short (w : World) (a : Option Addr) (n c : Nat) (_hn : n ≤ 1152921504606846976) (v2 : Value) (h2 : w.cell? ⟨3, 0, none⟩ = some v2) (p : Int) (h0 : 0 ≤ p) (hp : p ≤ n) (hs : (n : Int) - p < 4) :
  Calls Tryz.prog 233 #[.slice a n c, .int .i64 p] w fun e w' => e = .returned (.tuple #[.int .u32 0, v2]) ∧ ∃ q, w' = w.drewN q := by
 go_enter Tryz.func233, Tryz.ntmps233
 go_wp2
 go_quiet (fail)
 go_wp2
 go_ret2
 exact ⟨rfl, _, rfl⟩
theorem or_add_WordG (i a b : Nat) (h : a < 2 ^ i) : a ||| b * 2 ^ i = a + b * 2 ^ i := by
 rw [Nat.or_comm, Nat.mul_comm, ← Nat.two_pow_add_eq_or_of_lt h b, Nat.add_comm]
theorem or4 (z0 z1 z2 z3 : Nat) (b0 : z0 < 256) (b1 : z1 < 256) (b2 : z2 < 256) (b3 : z3 < 256) :
  bits BinOp.or IntKind.u32 (bits BinOp.or IntKind.u32 (bits BinOp.or IntKind.u32 (z0 : Int) ((z1 : Int) * 256)) ((z2 : Int) * 65536)) ((z3 : Int) * 16777216) = ((z0 + z1 * 256 + z2 * 65536 + z3 * 16777216 : Nat) : Int) := by
 have e1 : bits BinOp.or IntKind.u32 (z0 : Int) ((z1 : Int) * 256) = ((z0 + z1 * 256 : Nat) : Int) := by
  rw [show ((z1 : Int) * 256) = ((z1 * 256 : Nat) : Int) by omega, u32_or_nat _ _ (by omega) (by omega), or_add_WordG 8 z0 z1 b0]
 have e2 : bits BinOp.or IntKind.u32 ((z0 + z1 * 256 : Nat) : Int) ((z2 : Int) * 65536) = ((z0 + z1 * 256 + z2 * 65536 : Nat) : Int) := by
  rw [show ((z2 : Int) * 65536) = ((z2 * 65536 : Nat) : Int) by omega, u32_or_nat _ _ (by omega) (by omega), or_add_WordG 16 _ z2 (by omega)]
 have e3 : bits BinOp.or IntKind.u32 ((z0 + z1 * 256 + z2 * 65536 : Nat) : Int) ((z3 : Int) * 16777216) = ((z0 + z1 * 256 + z2 * 65536 + z3 * 16777216 : Nat) : Int) := by
  rw [show ((z3 : Int) * 16777216) = ((z3 * 16777216 : Nat) : Int) by omega, u32_or_nat _ _ (by omega) (by omega), or_add_WordG 24 _ z3 (by omega)]
 rw [e1, e2, e3]
theorem ret2 {k : IntKind} {a b : Int} {x : Value} (h : a = b) : Ending.returned (.tuple #[.int k a, x]) = .returned (.tuple #[.int k b, x]) := by rw [h]
theorem get_ok (w : World) (b off n c : Nat) (hnc : n ≤ c) (hn : n ≤ 1152921504606846976) (k : Nat) (hk : k + 4 ≤ n) (z0 z1 z2 z3 : Nat)
  (c0 : w.cell? ⟨b, off + k, none⟩ = some (.int .u8 z0)) (c1 : w.cell? ⟨b, off + k + 1, none⟩ = some (.int .u8 z1)) (c2 : w.cell? ⟨b, off + k + 2, none⟩ = some (.int .u8 z2)) (c3 : w.cell? ⟨b, off + k + 3, none⟩ = some (.int .u8 z3))
  (b0 : z0 < 256) (b1 : z1 < 256) (b2 : z2 < 256) (b3 : z3 < 256) :
  Calls Tryz.prog 233 #[.slice (some ⟨b, off, none⟩) n c, .int .i64 k] w fun e w' => e = .returned (.tuple #[.int .u32 (z0 + z1 * 256 + z2 * 65536 + z3 * 16777216 : Nat), .nilIface]) ∧ ∃ q, w' = w.drewN q := by
 have h0 : ¬ ((k : Int) < 0) := by omega
 have h1 : ¬ ((n : Int) < k) := by omega
 have h2 : ¬ ((n : Int) - k < 4) := by omega
 go_enter Tryz.func233, Tryz.ntmps233
 go_wp2
 go_quiet (fail)
 go_wp2
 go_ret2
 exact ⟨ret2 (or4 z0 z1 z2 z3 b0 b1 b2 b3), _, rfl⟩
theorem cell_at {w : World} {b off : Nat} {l : List UInt8} (h : ∀ j (hj : j < l.length), w.cell? ⟨b, off + j, none⟩ = some (.int .u8 (l[j].toNat : Int))) (j : Nat) (hj : j < l.length) : w.cell? ⟨b, off + j, none⟩ = some (.int .u8 ((l.getD j 0).toNat : Nat)) := by
 rw [h j hj, List.getD, List.getElem?_eq_getElem hj]
 rfl
theorem get_any (w : World) (a : Option Addr) (n c : Nat) (l : List UInt8) (hr : Rd w a n c l) (hn : n ≤ 1152921504606846976) (es : List Addr) (hE : E4 w es) (p : Int) :
  Calls Tryz.prog 233 #[.slice a n c, .int .i64 p] w fun e w' => e = .returned (.tuple #[.int .u32 (getV l p), erv es (getE l p)]) ∧ ∃ q, w' = w.drewN q := by
 have hl := hr.len
 by_cases h1 : p < 0 ∨ (l.length : Int) < p
 ·have e1 : getE l p = 1 := by rw [getE, if_pos h1]
  have e2 : getV l p = 0 := by rw [getV, e1]; rfl
  rw [e1, e2]
  exact get_arg w a n c _ hE.arg p (by omega)
 ·by_cases h2 : (l.length : Int) - p < 4
  ·have e1 : getE l p = 2 := by rw [getE, if_neg h1, if_pos h2]
   have e2 : getV l p = 0 := by rw [getV, e1]; rfl
   rw [e1, e2]
   exact get_short w a n c hn _ hE.short p (by omega) (by omega) (by omega)
  ·have e1 : getE l p = 0 := by rw [getE, if_neg h1, if_neg h2]
   have e2 : getV l p = num4 l p.toNat := by rw [getV, e1]; rfl
   obtain ⟨k, rfl⟩ := Int.eq_ofNat_of_zero_le (show 0 ≤ p by omega)
   rw [e1, e2]
   obtain ⟨b, off, rfl, hb, hc⟩ := hr.plain (by omega)
   have hb : ∀ x : UInt8, x.toNat < 256 := fun x => x.toNat_lt
   exact get_ok w b off n c hr.le hn k (by omega) _ _ _ _ (cell_at hc k (by omega)) (cell_at hc (k + 1) (by omega)) (cell_at hc (k + 2) (by omega)) (cell_at hc (k + 3) (by omega)) (hb _) (hb _) (hb _) (hb _)
theorem num4_at (p r : List UInt8) (z : Nat) (hz : z < 4294967296) : num4 (p ++ (le4 z ++ r)) p.length = z := by
 have at' : ∀ i, (p ++ (le4 z ++ r)).getD (p.length + i) 0 = (le4 z ++ r).getD i 0 := fun i => by
  rw [List.getD, List.getD, List.getElem?_append_right (by omega), Nat.add_sub_cancel_left]
 have h0 := at' 0
 rw [Nat.add_zero] at h0
 rw [num4, h0, at' 1, at' 2, at' 3]
 simp only [le4, List.cons_append, List.nil_append, List.getD, List.getElem?_cons_zero, List.getElem?_cons_succ, Option.getD_some, UInt8.toNat_ofNat']
 omega
theorem getE_ok {l : List UInt8} {k : Nat} (h : k + 4 ≤ l.length) : getE l (k : Int) = 0 := by rw [getE, if_neg (by omega), if_neg (by omega)]
theorem getV_ok {l : List UInt8} {k : Nat} (h : k + 4 ≤ l.length) : getV l (k : Int) = num4 l k := by rw [getV, if_pos (getE_ok h)]; rfl
theorem getV_err {l : List UInt8} {p : Int} (h : getE l p ≠ 0) : getV l p = 0 := by rw [getV, if_neg h]
end
end Go.Proofs.YtpbgbpcdohdecaaGreatDoor
