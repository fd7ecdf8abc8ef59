/- Lemmas that the proof leans on. -/
import Derived.Test.YtpbgbpcdohdecaaGreatDoorB17
namespace Go.Proofs.YtpbgbpcdohdecaaGreatDoor
open Go Go.RowKit
set_option maxRecDepth 100000
set_option maxHeartbeats 1000000
section
theorem rows_last {E : Int → List Int} : ∀ (ys : List Int) (y0 : Int) (e : List Int), Turns E y0 e ys → E y0 = e → ∀ j r, ((y0, e) :: rows E e ys)[j]? = some r → r.2 ≠ [] → j + 1 < ((y0, e) :: rows E e ys).length
 | [], y0, e, h, he, j, r, hj, hr => by
  rw [rows] at hj
  cases j with
  | zero =>
   simp only [List.getElem?_cons_zero, Option.some.injEq] at hj
   subst hj
   exact absurd (he.symm.trans (h y0 (Int.le_refl _))) hr
  | succ j => simp at hj
 | y :: t, y0, e, h, he, j, r, hj, hr => by
  obtain ⟨h1, h2, h3⟩ := h
  rw [rows] at hj ⊢
  by_cases hh : E y = e
  ·rw [if_pos hh] at hj ⊢
   exact rows_last t y0 e (Turns.on h1 h2 hh h3) he j r hj hr
  ·rw [if_neg hh] at hj ⊢
   cases j with
   | zero => simp
   | succ j =>
    rw [List.getElem?_cons_succ] at hj
    have := rows_last t y (E y) h3 rfl j r hj hr
    rw [List.length_cons]
    omega
theorem rows_mem {E : Int → List Int} {r : Int × List Int} : ∀ {ys : List Int} {e : List Int}, r ∈ rows E e ys → r.1 ∈ ys ∧ r.2 = E r.1
 | [], e, h => by rw [rows] at h; cases h
 | y :: t, e, h => by
  rw [rows] at h
  split at h
  ·obtain ⟨h1, h2⟩ := rows_mem h
   exact ⟨by simp [h1], h2⟩
  ·rcases List.mem_cons.1 h with rfl | h
   ·exact ⟨by simp, rfl⟩
   ·obtain ⟨h1, h2⟩ := rows_mem h
    exact ⟨by simp [h1], h2⟩
theorem rows_length (E : Int → List Int) : ∀ (ys : List Int) (e : List Int), (rows E e ys).length ≤ ys.length
 | [], _ => by rw [rows]; simp
 | y :: t, e => by
  rw [rows]
  split
  ·have := rows_length E t e; simp only [List.length_cons]; omega
  ·have := rows_length E t (E y); simp only [List.length_cons]; omega
def rwc : List (Int × List Int) → List Value → List Value
 | r :: R, v :: vs => .int .i64 r.1 :: v :: rwc R vs
 | _, _ => []
theorem rwc_append : ∀ {R : List (Int × List Int)} {vs : List Value} (R' : List (Int × List Int)) (vs' : List Value), vs.length = R.length → rwc (R ++ R') (vs ++ vs') = rwc R vs ++ rwc R' vs'
 | [], [], _, _, _ => rfl
 | [], _ :: _, _, _, h => by simp at h
 | _ :: _, [], _, _, h => by simp at h
 | r :: R, v :: vs, R', vs', h => by
  rw [List.cons_append, List.cons_append, rwc, rwc_append R' vs' (by simpa using h), rwc]
  rfl
theorem rwc_at : ∀ {R : List (Int × List Int)} {vs : List Value} {j : Nat} {r : Int × List Int} {v : Value}, R[j]? = some r → vs[j]? = some v → (rwc R vs)[j * 2]? = some (.int .i64 r.1) ∧ (rwc R vs)[j * 2 + 1]? = some v
 | [], _, j, _, _, h, _ => by simp at h
 | _ :: _, [], j, _, _, _, h => by simp at h
 | x :: R, u :: vs, 0, r, v, h, h' => by
  simp only [List.getElem?_cons_zero, Option.some.injEq] at h h'
  subst h h'
  exact ⟨rfl, rfl⟩
 | x :: R, u :: vs, j + 1, r, v, h, h' => by
  rw [List.getElem?_cons_succ] at h h'
  obtain ⟨h1, h2⟩ := rwc_at h h'
  rw [rwc, show (j + 1) * 2 = j * 2 + 1 + 1 by omega]
  simp only [List.getElem?_cons_succ]
  exact ⟨h1, h2⟩
structure OwW (w u : World) (v : Value) (R : List (Int × List Int)) (vs : List Value) : Prop where
 len : vs.length = R.length
 own : u.ownsRow w.heap.size 359 2 v R.length (rwc R vs)
 eds : ∀ (j : Nat) (r : Int × List Int) (x : Value), R[j]? = some r → vs[j]? = some x → u.ownsRow w.heap.size 3 1 x r.2.length (nums r.2)
 bel : Below w.heap.size w u
theorem OwW.on {w u u' : World} {v : Value} {R : List (Int × List Int)} {vs : List Value} (h : OwW w u v R vs) (hb : Below u.heap.size u u') : OwW w u' v R vs :=
 ⟨h.len, ownsRow_below h.own hb, fun j r x hr hx => ownsRow_below (h.eds j r x hr hx) hb, Below.on h.bel hb⟩
theorem OwW.nil (w : World) : OwW w w (.slice none 0 0) [] [] := ⟨rfl, World.ownsRow_nil _ _ _ _, fun j r x h => by simp at h, Below.refl _ _⟩
theorem own_keep {u u' : World} {base base' e e' size size' n n' : Nat} {v v' : Value} {xs xs' : List Value} (h : u.ownsRow base e size v n xs) (h' : u.ownsRow base' e' size' v' n' xs') (hT : e ≠ e') (g : u.grownBy u' v'.ownBlock) : u'.ownsRow base e size v n xs := by
 refine h.kept g ?_
 rcases h.2 with ⟨rfl, _⟩ | ⟨q, cap, cur, rfl, _, hq, _⟩
 ·exact .inl rfl
 ·exact .inr (own_ne_RgnP h' hq hT)
theorem OwW.rdw {w u : World} {v : Value} {R : List (Int × List Int)} {vs : List Value} (h : OwW w u v R vs) : ∃ a c, v = .slice a R.length c ∧ RdW u a R.length c R := by
 rcases h.own.2 with ⟨rfl, h0⟩ | ⟨g, cap, cur, rfl, hb, hg, hn, hm, _, _⟩
 ·exact ⟨none, 0, by rw [h0], rfl, by omega, Nat.zero_le _, fun _ => rfl, fun h => absurd h (by omega)⟩
 ·have hgl := h.own.lt g rfl
  refine ⟨some ⟨g, 0, none⟩, cap, rfl, rfl, hn, hm, (fun h => by cases h), fun _ => ⟨g, 0, rfl, hgl.2, fun j r hr => ?_⟩⟩
  have hj : j < R.length := (List.getElem?_eq_some_iff.1 hr).1
  have hjv : j < vs.length := by rw [h.len]; exact hj
  have hx : vs[j]? = some vs[j] := List.getElem?_eq_getElem hjv
  obtain ⟨g1, g2⟩ := rwc_at hr hx
  obtain ⟨a, c, hv, hrd⟩ := rdj_of_owns (h.eds j r _ hr hx)
  rw [Nat.zero_add]
  exact ⟨hgl.2, by rw [h.own.cellAt _ (by omega)]; exact g1, a, c, by rw [h.own.cellAt _ (by omega), g2, hv], hrd⟩
theorem infoW_RgnQ : (Tryz.prog.info? 359).map (fun i => (i.zero, i.size, i.bytes)) = some (some (.agg #[.int .i64 0, .slice none 0 0]), 2, 32) := by kernel_rfl
theorem srcW_RgnQ (w : World) (y : Int) (x : Value) (hx : x.oneCell' = true) : Src Tryz.prog 2 352 (.slice (some ⟨w.heap.size, 0, none⟩) 1 1) 1 [.int .i64 y, x] (w.alloc (.cells #[.int .i64 y, x] 359)) :=
 Src.ofSlice (P := Tryz.prog) _ Tryz.underlying352 ⟨w.heap.size, 0, none⟩ 1 1 [.int .i64 y, x] rfl (fun q u hu => by
  match q, hu with
  | 0, hu => cases hu; simp [Addr.add]
  | 1, hu => cases hu; simp [Addr.add]
  | q + 2, hu => simp at hu) (fun u hu => by
  simp only [List.mem_cons, List.not_mem_nil, or_false] at hu
  rcases hu with rfl | rfl
  ·rfl
  ·exact hx)
theorem OwW.push {w u u' : World} {v7 v11 v' : Value} {R : List (Int × List Int)} {vs : List Value} {E : List Int} {y : Int} (h7 : OwW w u v7 R vs) (h11 : OwJ w u v11 E)
  (o : u'.ownsRow w.heap.size 359 2 v' (R.length + 1) (rwc R vs ++ [.int .i64 y, v11])) (g : (u.alloc (.cells #[.int .i64 y, v11] 359)).grownBy u' v7.ownBlock) : OwW w u' v' (R ++ [(y, E)]) (vs ++ [v11]) ∧ OwJ w u' v11 E := by
 have hb := below_new u (.cells #[.int .i64 y, v11] 359)
 have h7' := h7.on hb
 have h11' := h11.on hb
 have bel : Below w.heap.size w u' := h11'.bel.grown g h11'.bel.size (fun k hk => (h7'.own.lt k hk).1)
 have keep : ∀ {x : Value} {n : Nat} {xs : List Value}, (u.alloc (.cells #[.int .i64 y, v11] 359)).ownsRow w.heap.size 3 1 x n xs → u'.ownsRow w.heap.size 3 1 x n xs := fun hx => own_keep hx h7'.own (by decide) g
 have hlen := h7.len
 refine ⟨⟨by simp [hlen], ?_, fun j r x hr hx => ?_, bel⟩, keep h11'.own, bel⟩
 ·rw [rwc_append _ _ hlen, List.length_append]
  exact o
 ·rcases Nat.lt_or_ge j R.length with hj | hj
  ·rw [List.getElem?_append_left hj] at hr
   rw [List.getElem?_append_left (by omega)] at hx
   exact keep (h7'.eds j r x hr hx)
  ·have hj' : j < (R ++ [(y, E)]).length := (List.getElem?_eq_some_iff.1 hr).1
   simp at hj'
   obtain rfl : j = R.length := by omega
   rw [List.getElem?_append_right (Nat.le_refl _), Nat.sub_self] at hr
   rw [List.getElem?_append_right (by omega), hlen, Nat.sub_self] at hx
   simp only [List.getElem?_cons_zero, Option.some.injEq] at hr hx
   subst hr hx
   exact keep h11'.own
theorem combine_any (a a' : Option Addr) (n c n' c' : Nat) (l m : List Rc) (g : Nat) (f : Bool → Bool → Bool) (w : World) (h : RdC w a n c l) (h' : RdC w a' n' c' m) (hl : Bands l) (hm : Bands m) (hf : f false false = false) (hg : Fn2 g f) (hn : n + n' ≤ 4096) :
  Calls Tryz.prog 197 #[.slice a n c, .slice a' n' c', .func (.func g) #[] #[]] w fun e w' => ∃ v, e = .returned v ∧ OwC w w' v (mk f l m) := by
 have H := hid h
 have H' := hid h'
 have HL := hid h.len
 have HL' := hid h'.len
 have KL := hid hl
 have KM := hid hm
 have HG := hid hg
 have HF := hid hf
 obtain ⟨i0, hi, hz0, hz1, hz2⟩ := info3 infoW_RgnQ
 have CH := hid (heights_any a a' n c n' c' l m w h h' hl.ck hm.ck (by omega) (by omega))
 obtain ⟨ys, hys⟩ : ∃ ys, ys = ysOf (l ++ m) := ⟨_, rfl⟩
 obtain ⟨E, hE⟩ : ∃ E : Int → List Int, E = fun y => mix f false false false (rowE l y) (rowE m y) := ⟨_, rfl⟩
 have HYS := hid hys
 have HE := hid hE
 have hyl : ys.length ≤ 8192 := by
  rw [hys]
  have := ys_length (l ++ m)
  rw [List.length_append, h.len, h'.len] at this
  omega
 rw [← hys] at CH
 clear h h' hl hm hg hf hys hE
 go_enter Tryz.func197, Tryz.ntmps197
 go_wp2_with fail
 refine CH.out.mono ?_
 rintro e w1 ⟨v1, rfl, hv1⟩
 obtain ⟨ay, cy, rfl, hry⟩ := rdj_of_owns hv1.own
 have HRY := hid hry
 have HB1 := hid hv1.bel
 have hys63 := hry.small
 clear hv1 hry CH
 go_wp2
 go_loopw [0, 1, 7, 8, 16] (fun s0 s1 s7 s8 s16 wr => ∃ (i : Nat) (l1 m1 : List Rc) (a1 : Option Addr) (c1 : Nat) (a2 : Option Addr) (c2 : Nat) (R : List (Int × List Int)) (vs : List Value) (e : List Int), s16 = .int .i64 i ∧ s0 = .slice a1 l1.length c1 ∧ s1 = .slice a2 m1.length c2 ∧ i ≤ ys.length ∧ RdC w a1 l1.length c1 l1 ∧ RdC w a2 m1.length c2 m1 ∧ (∀ x ∈ l1, x ∈ l) ∧ (∀ x ∈ m1, x ∈ m) ∧ l1.length ≤ n ∧ m1.length ≤ n' ∧ (∀ z ∈ ys.drop i, frm l1 z = frm l z ∧ frm m1 z = frm m z) ∧ R ++ rows E e (ys.drop i) = rows E [] ys ∧ OwW w1 wr s7 R vs ∧ OwJ w1 wr s8 e) (fun _ _ _ _ s16 _ => ys.length - (numOf s16).toNat)
 case atStart => exact ⟨0, l, m, a, c, a', c', [], [], [], rfl, by rw [HL.out], by rw [HL'.out], by omega, by rw [HL.out]; exact H.out, by rw [HL'.out]; exact H'.out, fun _ h => h, fun _ h => h, by rw [HL.out]; exact Nat.le_refl _, by rw [HL'.out]; exact Nat.le_refl _, fun _ _ => ⟨rfl, rfl⟩, rfl, OwW.nil w1, ⟨World.ownsRow_nil _ _ _ _, Below.refl _ _⟩⟩
 case round =>
  obtain ⟨i, l1, m1, a1, c1, a2, c2, R, vs, e, rfl, rfl, rfl, hi1, h0, h1, s0, s1, n0, n1, hfr, hR, h7, h8⟩ := hrel
  have H0 := hid h0
  have H1 := hid h1
  have S0 := hid s0
  have S1 := hid s1
  have HFR := hid hfr
  have HR := hid hR
  have H7 := hid h7
  have H8 := hid h8
  have HBL := hid h7.bel
  have HBW0 := hid (Below.on HB1.out h7.bel)
  clear h0 h1 s0 s1 hfr hR h7 h8
  by_cases hgo : i < ys.length
  ·have e1 : decide ((i : Int) < ys.length) = true := decide_eq_true (by omega)
   obtain ⟨by_, oy, y, hay, _, hyi, cy0⟩ := (HRY.out.on HBL.out).el hgo
   have HDY := hid (drop_at hyi)
   have hyin : y ∈ ys.drop i := by rw [HDY.out]; simp
   obtain ⟨f0, f1⟩ := HFR.out y hyin
   have hyb : -16777216 ≤ y ∧ y ≤ 16777216 := ys_in (a := l ++ m) (ck_both KL.out.ck KM.out.ck) (by rw [← HYS.out]; exact List.mem_of_getElem? hyi)
   have C1 := hid (fun u hu => from_any a1 l1.length c1 l1 y w u H0.out hu (fun x hx => KL.out.ck x (S0.out x hx)))
   have C2 := hid (fun u hu => from_any a2 m1.length c2 m1 y w u H1.out hu (fun x hx => KM.out.ck x (S1.out x hx)))
   have HSUB : Hid ((∀ x ∈ frm l y, x ∈ l) ∧ (∀ x ∈ frm m y, x ∈ m) ∧ (frm l y).length ≤ n ∧ (frm m y).length ≤ n') := by
    refine ⟨fun x hx => (List.dropWhile_sublist _).mem hx, fun x hx => (List.dropWhile_sublist _).mem hx, ?_, ?_⟩
    ·rw [← HL.out]; exact (List.dropWhile_sublist _).length_le
    ·rw [← HL'.out]; exact (List.dropWhile_sublist _).length_le
   rw [f0] at C1
   rw [f1] at C2
   have HNX : Hid (∀ z ∈ ys.drop (i + 1), frm (frm l y) z = frm l z ∧ frm (frm m y) z = frm m z) := fun z hz => by
    have hlt : y < z := by
     have hp : (ys.drop i).Pairwise (· < ·) := by rw [HYS.out]; exact (ys_rise _).sublist (List.drop_sublist _ _)
     rw [HDY.out] at hp
     exact (List.pairwise_cons.1 hp).1 z hz
    exact ⟨frm_frm (by omega), frm_frm (by omega)⟩
   subst hay
   have hi3 : (i : Int) < ys.length := by omega
   clear hyi f0 f1 hyin
   go_wp2_with fail
   refine (C1.out _ HBW0.out).mono ?_
   rintro e w2 ⟨a3, c3, rfl, h3, q2, rfl⟩
   go_wp2_with fail
   refine (C2.out _ (below_drewN_LibK HBW0.out q2)).mono ?_
   rintro e w3 ⟨a4, c4, rfl, h4, q3, rfl⟩
   have H3 := hid h3
   have H4 := hid h4
   have HQ := hid (below_drewN_LibK (below_drewN_LibK (Below.refl wr.heap.size wr) q2) q3)
   clear h3 h4 C1 C2
   generalize (wr.drewN q2).drewN q3 = w3 at HQ ⊢
   have D1 := hid (fun u hu => edgesat_any a3 (frm l y).length c3 (frm l y) y u hu (fun x hx => KL.out.ck x (HSUB.out.1 x hx)) (by have := HSUB.out.2.2.1; omega))
   have D2 := hid (fun u hu => edgesat_any a4 (frm m y).length c4 (frm m y) y u hu (fun x hx => KM.out.ck x (HSUB.out.2.1 x hx)) (by have := HSUB.out.2.2.2; omega))
   rw [edg_row KL.out] at D1
   rw [edg_row KM.out] at D2
   go_wp2_with fail
   refine (D1.out _ (H3.out.on (Below.on HBW0.out HQ.out))).mono ?_
   rintro e w4 ⟨v4, rfl, h5⟩
   go_wp2_with fail
   refine (D2.out _ (H4.out.on (Below.on HBW0.out (Below.on HQ.out h5.bel)))).mono ?_
   rintro e w5 ⟨v5, rfl, h6⟩
   obtain ⟨a5, c5, rfl, r5⟩ := rdj_of_owns (h5.on h6.bel).own
   obtain ⟨a6, c6, rfl, r6⟩ := rdj_of_owns h6.own
   have HB5 := hid (Below.on HQ.out (Below.on h5.bel h6.bel))
   have CM := hid (mix_any a5 a6 (rowE l y).length c5 (rowE m y).length c6 (rowE l y) (rowE m y) g f w5 r5 r6 HG.out (by have := rowE_length l y; rw [HL.out] at this; omega) (by have := rowE_length m y; rw [HL'.out] at this; omega))
   have HEy : Hid (mix f false false false (rowE l y) (rowE m y) = E y) := by rw [HE.out]; rfl
   rw [HEy.out] at CM
   clear h5 h6 r5 r6 D1 D2
   go_wp2_with fail
   refine CM.out.mono ?_
   rintro e w6 ⟨v6, rfl, h7⟩
   obtain ⟨a7, c7, hv7, r7⟩ := rdj_of_owns h7.own
   have HB6 := hid (Below.on HB5.out h7.bel)
   have HV6 := hid (h7.base (Below.on H7.out.bel HB5.out))
   clear CM HB5
   have H8' := hid (H8.out.on HB6.out)
   have H7' := hid (H7.out.on HB6.out)
   obtain ⟨a8, c8, hv8, r8⟩ := rdj_of_owns H8'.out.own
   subst hv7
   subst hv8
   have CE := hid (equal_any a7 a8 (E y).length c7 e.length c8 (E y) e w6 r7 r8)
   clear r7 r8 h7
   have HRR : Hid (rows E e (ys.drop i) = if E y = e then rows E e (ys.drop (i + 1)) else (y, E y) :: rows E (E y) (ys.drop (i + 1))) := by rw [Hid, HDY.out, rows]
   have hRl : R.length ≤ 8192 := by
    have := congrArg List.length HR.out
    rw [List.length_append] at this
    have h2 := rows_length E ys []
    omega
   cases hq : eqi (E y) e
   ·rw [hq] at CE
    have hne : E y ≠ e := by simpa [eqi] using hq
    have HR2 : Hid ((R ++ [(y, E y)]) ++ rows E (E y) (ys.drop (i + 1)) = rows E [] ys) := by
     have := HR.out
     rw [HRR.out, if_neg hne] at this
     rw [Hid, ← this, List.append_assoc]
     rfl
    clear hne HRR HR
    go_wp2_with fail
    refine CE.out.mono ?_
    rintro e9 w7 ⟨rfl, q7, rfl⟩
    have HQ7 := below_drewN_LibK (Below.refl w6.heap.size w6) q7
    have G7 := hid (H7'.out.on HQ7)
    have G8 := hid (HV6.out.on HQ7)
    clear CE H7' H8' HV6 HQ7
    generalize w6.drewN q7 = w7 at G7 G8 ⊢
    have HOW := hid ((G7.out.on (below_new w7 (.cells #[.int .i64 y, .slice a7 (E y).length c7] 359))).own)
    have HSZ := (G7.out.on (below_new w7 (.cells #[.int .i64 y, .slice a7 (E y).length c7] 359))).bel.size
    have HSR := hid (srcW_RgnQ w7 y (.slice a7 (E y).length c7) rfl)
    have HA : Hid (∀ v' w', w'.ownsRow w1.heap.size 359 2 v' (R.length + 1) (rwc R vs ++ [.int .i64 y, .slice a7 (E y).length c7]) → (w7.alloc (.cells #[.int .i64 y, .slice a7 (E y).length c7] 359)).grownBy w' u7.ownBlock → OwW w1 w' v' (R ++ [(y, E y)]) (vs ++ [.slice a7 (E y).length c7]) ∧ OwJ w1 w' (.slice a7 (E y).length c7) (E y)) := fun v' w' o g' => G7.out.push G8.out o g'
    go_wp2_with (at_builtin; refine wpList_append_own_src _ rfl (.tmp 38) (.tmp 42) 352 352 rfl w1.heap.size 359 i0 (.agg #[.int .i64 0, .slice none 0 0]) 2 32 Tryz.underlying352 hi hz0 hz1 hz2 rfl _ _ _ rfl HOW.out _ _ _ rfl HSR.out (by simp only [maxLen]; omega) (fits32 (by omega)) HSZ ?_; intro v9 w9 o9 g9; have H9 := hid (HA.out _ _ o9 g9); clear o9 g9 HA HOW HSR HSZ)
    go_wp2
    go_roundw
    case rel => exact ⟨i + 1, frm l y, frm m y, a3, c3, a4, c4, R ++ [(y, E y)], vs ++ [.slice a7 (E y).length c7], E y, by go_num, rfl, rfl, by omega, H3.out, H4.out, HSUB.out.1, HSUB.out.2.1, HSUB.out.2.2.1, HSUB.out.2.2.2, HNX.out, HR2.out, H9.out.1, H9.out.2⟩
    case measure => simp [numOf]; omega
   ·rw [hq] at CE
    have hne : E y = e := by simpa [eqi] using hq
    have HR2 : Hid (R ++ rows E e (ys.drop (i + 1)) = rows E [] ys) := by
     have := HR.out
     rw [HRR.out, if_pos hne] at this
     exact this
    clear hne HRR HR
    go_wp2_with fail
    refine CE.out.mono ?_
    rintro e9 w7 ⟨rfl, q7, rfl⟩
    have HQ7 := below_drewN_LibK (Below.refl w6.heap.size w6) q7
    have G7 := hid (H7'.out.on HQ7)
    have G8 := hid (H8'.out.on HQ7)
    clear CE H7' H8' HV6 HQ7
    generalize w6.drewN q7 = w7 at G7 G8 ⊢
    go_wp2
    go_roundw
    case rel => exact ⟨i + 1, frm l y, frm m y, a3, c3, a4, c4, R, vs, e, by go_num, rfl, rfl, by omega, H3.out, H4.out, HSUB.out.1, HSUB.out.2.1, HSUB.out.2.2.1, HSUB.out.2.2.2, HNX.out, HR2.out, G7.out, G8.out⟩
    case measure => simp [numOf]; omega
  ·have e1 : decide ((i : Int) < ys.length) = false := decide_eq_false (by omega)
   have HR2 : Hid (R = rows E [] ys) := by
    have := HR.out
    rw [List.drop_eq_nil_of_le (by omega), rows, List.append_nil] at this
    exact this
   obtain ⟨a9, c9, hv9, r9⟩ := H7.out.rdw
   have HEL : Hid (∀ z, E z = lin f l m z) := fun z => by rw [HE.out]; exact mix_lin HF.out KL.out KM.out z
   have HED := hid (lin_edges HF.out KL.out.ck KM.out.ck)
   have HT : Hid (Turns E (-16777217) [] ys) := by
    rw [Hid, funext HEL.out, HYS.out]
    exact lin_turns HF.out KL.out.ck KM.out.ck
   have h00 : E (-16777217) = [] := by
    rw [HEL.out]
    exact lin_none HF.out KL.out.ck KM.out.ck fun x => ⟨pt_out KL.out.ck (by omega), pt_out KM.out.ck (by omega)⟩
   have HLA : Hid (∀ j r, R[j]? = some r → r.2 ≠ [] → j + 1 < R.length) := fun j r hj hr => by
    rw [HR2.out] at hj ⊢
    have := rows_last ys (-16777217) [] HT.out h00 (j + 1) r (by rw [List.getElem?_cons_succ]; exact hj) hr
    simpa using this
   have HMR : Hid (∀ r ∈ R, r.1 ∈ ys ∧ r.2 = lin f l m r.1) := fun r hr => by
    rw [HR2.out] at hr
    obtain ⟨g1, g2⟩ := rows_mem hr
    exact ⟨g1, by rw [g2, HEL.out]⟩
   have hRl : R.length ≤ 8192 := by
    rw [HR2.out]
    have := rows_length E ys []
    omega
   have HXL : Hid ((xsOf (l ++ m)).length ≤ 8192) := by
    have := xs_length (l ++ m)
    rw [List.length_append, HL.out, HL'.out] at this
    rw [Hid]
    omega
   have CB := hid (bands_any a9 R.length c9 R wr r9 (fun r hr => by rw [(HMR.out r hr).2]; exact HED.out.even _) HLA.out (fun r hr => ys_in (ck_both KL.out.ck KM.out.ck) (by rw [← HYS.out]; exact (HMR.out r hr).1)) (fun r hr x hx => xs_in (ck_both KL.out.ck KM.out.ck) (lin_mem (by rw [(HMR.out r hr).2] at hx; exact hx))) (by omega) (fun r hr => by rw [(HMR.out r hr).2]; have := (chg_sub (fun x => f (pt l x r.1) (pt m x r.1)) (xsOf (l ++ m)) false).length_le; have h2 := HXL.out; unfold lin; omega))
   have HMK : Hid (bnds R = mk f l m) := by
    rw [Hid, HR2.out, HE.out, HYS.out]
    exact rows_mk HF.out KL.out KM.out
   have HW := hid (Below.on HB1.out H7.out.bel)
   rw [HMK.out] at CB
   subst hv9
   clear r9
   go_wp2_with fail
   refine CB.out.mono ?_
   rintro e9 w9 ⟨v9, rfl, h9⟩
   have H9 := hid (h9.base HW.out)
   clear h9
   go_wp2
   go_ret
   exact ⟨_, rfl, H9.out⟩
end
section
theorem fn_or : Fn2 198 or := by
 refine ⟨enters_of Tryz.func198 (by kernel_rfl) rfl, fun p q u => ?_⟩
 cases p <;> cases q
 all_goals
  go_enter Tryz.func198, Tryz.ntmps198
  go_wp2
  go_ret
  exact ⟨rfl, rfl⟩
def unn (f : Bool → Bool → Bool) (l m : List Rc) : List Rc := if rgn l = true ∧ rgn m = true then mk f l m else []
theorem unn_ok {f : Bool → Bool → Bool} (hf : f false false = false) (l m : List Rc) : ∀ r ∈ unn f l m, r.Ok := fun r hr => by
 unfold unn at hr
 split at hr
 ·rename_i h
  exact ((mk_all hf (rgn_iff.1 h.1).ck (rgn_iff.1 h.2).ck).1.ck r hr).ok
 ·cases hr
theorem unn_reg {f : Bool → Bool → Bool} {l m : List Rc} (hl : Reg l) (hm : Reg m) : unn f l m = mk f l m := by rw [unn, if_pos ⟨rgn_iff.2 hl, rgn_iff.2 hm⟩]
theorem union_any (a a' : Option Addr) (n c n' c' : Nat) (l m : List Rc) (w : World) (h : RdC w a n c l) (h' : RdC w a' n' c' m) (hn : n + n' ≤ 4096) :
  Calls Tryz.prog 136 #[.slice a n c, .slice a' n' c'] w (Ret w (unn or l m)) := by
 have H := hid h
 have H' := hid h'
 have C1 := hid (fun u hu => regcheck_any a n c l u hu)
 have C2 := hid (fun u hu => regcheck_any a' n' c' m u hu)
 have HOK := hid (unn_ok (f := or) rfl l m)
 clear h h'
 cases h1 : rgn l
 ·have HU : Hid (unn or l m = []) := by rw [Hid, unn, if_neg (by rw [h1]; simp)]
  rw [h1] at C1
  go_enter Tryz.func136, Tryz.ntmps136
  go_wp2_with fail
  refine (C1.out _ H.out).mono ?_
  rintro e w1 ⟨rfl, hb1⟩
  go_wp2
  go_ret
  rw [HU.out]
  exact ⟨none, 0, rfl, RdC.nil _, hb1⟩
 ·rw [h1] at C1
  cases h2 : rgn m
  ·have HU : Hid (unn or l m = []) := by rw [Hid, unn, if_neg (by rw [h2]; simp)]
   rw [h2] at C2
   go_enter Tryz.func136, Tryz.ntmps136
   go_wp2_with fail
   refine (C1.out _ H.out).mono ?_
   rintro e w1 ⟨rfl, hb1⟩
   go_wp2_with fail
   refine (C2.out _ (H'.out.on hb1)).mono ?_
   rintro e w2 ⟨rfl, hb2⟩
   go_wp2
   go_ret
   rw [HU.out]
   exact ⟨none, 0, rfl, RdC.nil _, Below.on hb1 hb2⟩
  ·have HU : Hid (unn or l m = mk or l m) := by rw [Hid, unn, if_pos ⟨h1, h2⟩]
   rw [h2] at C2
   have CC := hid (fun u hu hu' => combine_any a a' n c n' c' l m 198 or u hu hu' (rgn_iff.1 h1).bands (rgn_iff.1 h2).bands rfl fn_or hn)
   rw [← HU.out] at CC
   go_enter Tryz.func136, Tryz.ntmps136
   go_wp2_with fail
   refine (C1.out _ H.out).mono ?_
   rintro e w1 ⟨rfl, hb1⟩
   go_wp2_with fail
   refine (C2.out _ (H'.out.on hb1)).mono ?_
   rintro e w2 ⟨rfl, hb2⟩
   have HB := hid (Below.on hb1 hb2)
   clear hb1 hb2
   go_wp2_with fail
   refine (CC.out _ (H.out.on HB.out) (H'.out.on HB.out)).mono ?_
   rintro e w3 ⟨v3, rfl, h3⟩
   have H3 := hid ((h3.base HB.out).ret HOK.out)
   clear h3
   go_wp2
   go_ret
   exact H3.out
theorem of_any_RgnR (r : Rc) (ok : r.Ok) (w : World) : Calls Tryz.prog 137 #[.agg #[.int .i64 r.x, .int .i64 r.y, .int .i64 r.w, .int .i64 r.h]] w (Ret w (ofl r)) := by
 have CB := hid (fun u => bound_any r ok u)
 have CE := hid (fun u => empty_any (bnd r) u)
 go_enter Tryz.func137, Tryz.ntmps137
 go_wp2_with fail
 refine (CB.out _).mono ?_
 rintro e w1 ⟨rfl, hb1⟩
 obtain ⟨hX, hw⟩ := box1 r hb1
 have HX := hid (hX.st (bnd r))
 have HW := hid (below_st hw (Nat.le_refl _) (bnd r))
 obtain ⟨c0, c1, c2, c3⟩ := hX.all
 have fz := hX.fz
 clear hb1 hX hw CB
 cases he : emp (bnd r)
 ·rw [he] at CE
  have HU : Hid (ofl r = [bnd r]) := by rw [Hid, ofl, if_neg (by rw [he]; decide)]
  have HK : Hid (Ck (bnd r)) := (bnd_cases r).resolve_left (by rw [he]; decide)
  go_wp2_with fail
  refine (CE.out _).mono ?_
  rintro e w2 ⟨rfl, hb2⟩
  have hX2 : Bx w2 w.heap.size (bnd r) := HX.out.on hb2
  have HW2 : Hid (Below w.heap.size w w2) := Below.on HW.out hb2
  obtain ⟨d0, d1, d2, d3⟩ := hX2.all
  have HO : Hid (OwC w (w2.alloc (.cells #[.int .i64 (bnd r).x, .int .i64 (bnd r).y, .int .i64 (bnd r).w, .int .i64 (bnd r).h] 97)) (.slice (some ⟨w2.heap.size, 0, none⟩) 1 1) [bnd r]) := ⟨World.ownsRow_lit w2 _ 1 HW2.out.size (by decide) rfl, HW2.out.alloc HW2.out.size _⟩
  clear hX2 hb2 HX HW c0 c1 c2 c3 fz
  go_wp2
  go_ret
  rw [HU.out]
  exact HO.out.ret (fun x hx => by simp only [List.mem_singleton] at hx; rw [hx]; exact HK.out.ok)
 ·rw [he] at CE
  have HU : Hid (ofl r = []) := by rw [Hid, ofl, if_pos he]
  go_wp2_with fail
  refine (CE.out _).mono ?_
  rintro e w2 ⟨rfl, hb2⟩
  have HW2 : Hid (Below w.heap.size w w2) := Below.on HW.out hb2
  clear hb2
  go_wp2
  go_ret
  rw [HU.out]
  exact ⟨none, 0, rfl, RdC.nil _, HW2.out⟩
end
section
structure Gd_RgnV (p : Nat) (l : List Rc) : Prop where
 reg : Reg l
 grid : ∃ X Y, Grid X Y l ∧ X.length ≤ p ∧ Y.length ≤ p
theorem Gd_RgnV.len {p : Nat} {l : List Rc} (h : Gd_RgnV p l) : l.length ≤ p * p := by
 obtain ⟨X, Y, g, hx, hy⟩ := h.grid
 exact Nat.le_trans (grid_len h.reg.bands g) (Nat.mul_le_mul hx hy)
theorem gd_both {p q : Nat} {f : Bool → Bool → Bool} {a b : List Rc} (ha : Gd_RgnV p a) (hb : Gd_RgnV q b) (hf : f false false = false) : Gd_RgnV (p + q) (mk f a b) := by
 obtain ⟨X, Y, g, hx, hy⟩ := ha.grid
 obtain ⟨X', Y', g', hx', hy'⟩ := hb.grid
 refine ⟨(mk_all hf ha.reg.ck hb.reg.ck).1, X ++ X', Y ++ Y', grid_mk hf ha.reg.ck hb.reg.ck (g.mono (fun x h => by simp [h]) (fun x h => by simp [h])) (g'.mono (fun x h => by simp [h]) (fun x h => by simp [h])), by rw [List.length_append]; omega, by rw [List.length_append]; omega⟩
theorem mkp {f : Bool → Bool → Bool} (hf : f false false = false) {a b : List Rc} (ha : Reg a) (hb : Reg b) (x y : Int) : pt (mk f a b) x y = f (pt a x y) (pt b x y) := (mk_all hf ha.ck hb.ck).2.1 x y
theorem union_reg {a a' : Option Addr} {n c n' c' p q : Nat} {l m : List Rc} {w : World} (h : RdC w a n c l) (h' : RdC w a' n' c' m) (hl : Gd_RgnV p l) (hm : Gd_RgnV q m) (hn : p * p + q * q ≤ 4096) : Calls Tryz.prog 136 #[.slice a n c, .slice a' n' c'] w (Ret w (mk or l m)) := by
 rw [← unn_reg hl.reg hm.reg]
 exact union_any a a' n c n' c' l m w h h' (by have := hl.len; have := hm.len; have := h.len; have := h'.len; omega)
theorem rdc_lit (w : World) (r : Rc) (ok : r.Ok) : RdC (w.alloc (.cells #[.int .i64 r.x, .int .i64 r.y, .int .i64 r.w, .int .i64 r.h] 97)) (some ⟨w.heap.size, 0, none⟩) 1 1 [r] := by
 refine ⟨rfl, Nat.le_refl _, by decide, (fun h => by cases h), fun _ => ⟨w.heap.size, 0, rfl, by simp, fun j x hx => ?_⟩, fun x hx => ?_⟩
 ·cases j with
  | zero =>
   simp only [List.getElem?_cons_zero, Option.some.injEq] at hx
   subst hx
   have := bx_new w r
   obtain ⟨h0, h1, h2, h3⟩ := this.all
   exact ⟨by simp, h0, h1, h2, h3⟩
  | succ j => simp at hx
 ·simp only [List.mem_singleton] at hx
  rw [hx]
  exact ok
end
section
open Go
def trn (W : Nat) (g : Int → Int → Int → Int) (d : Int → Int → Bool) (L : List Int) : List Int :=
 L.mapIdx fun i z => if d ((i % W : Nat) : Int) ((i / W : Nat) : Int) then g ((i % W : Nat) : Int) ((i / W : Nat) : Int) z else z
variable {W : Nat} {g : Int → Int → Int → Int} {d d' : Int → Int → Bool} {L : List Int}
theorem trn_length : (trn W g d L).length = L.length := by simp [trn]
theorem place_lt {W H x y : Nat} (hx : x < W) (hy : y < H) : y * W + x < W * H := by
 have : (y + 1) * W ≤ H * W := Nat.mul_le_mul_right W hy
 rw [Nat.add_mul, Nat.one_mul] at this
 rw [Nat.mul_comm W H]
 omega
theorem place_mod {W x y : Nat} (hx : x < W) : (y * W + x) % W = x := by
 rw [Nat.mul_comm, Nat.mul_add_mod, Nat.mod_eq_of_lt hx]
theorem place_div {W x y : Nat} (hx : x < W) : (y * W + x) / W = y := by
 rw [Nat.mul_comm, Nat.mul_add_div (by omega), Nat.div_eq_of_lt hx, Nat.add_zero]
theorem place_eq {W H i : Nat} (hi : i < W * H) : ∃ x y, x < W ∧ y < H ∧ i = y * W + x := by
 have hW : 0 < W := by
  rcases Nat.eq_zero_or_pos W with h | h
  ·subst h; simp at hi
  ·exact h
 refine ⟨i % W, i / W, Nat.mod_lt _ hW, Nat.div_lt_of_lt_mul hi, ?_⟩
 rw [Nat.mul_comm]
 exact (Nat.div_add_mod i W).symm
theorem trn_get {x y : Nat} (hx : x < W) : (trn W g d L)[y * W + x]? = L[y * W + x]?.map fun z => if d x y then g x y z else z := by
 rw [trn, List.getElem?_mapIdx, place_mod hx, place_div hx]
theorem trn_ext {H : Nat} {M : List Int} (hL : L.length = W * H) (hM : M.length = W * H) (h : ∀ x y : Nat, x < W → y < H → M[y * W + x]? = L[y * W + x]?.map fun z => if d x y then g x y z else z) : M = trn W g d L := by
 apply List.ext_getElem?
 intro i
 by_cases hi : i < W * H
 ·obtain ⟨x, y, hx, hy, rfl⟩ := place_eq hi
  rw [h x y hx hy, trn_get hx]
 ·rw [List.getElem?_eq_none (by omega), List.getElem?_eq_none (by rw [trn_length]; omega)]
theorem trn_congr {H : Nat} (hL : L.length = W * H) (h : ∀ x y : Nat, x < W → y < H → d x y = d' x y) : trn W g d L = trn W g d' L :=
 trn_ext hL (by rw [trn_length, hL]) fun x y hx hy => by rw [trn_get hx, h x y hx hy]
theorem trn_none {H : Nat} (hL : L.length = W * H) (h : ∀ x y : Nat, x < W → y < H → d x y = false) : trn W g d L = L :=
 (trn_ext hL hL fun x y hx hy => by
  rw [h x y hx hy]
  cases L[y * W + x]? <;> rfl).symm
def add1 (d : Int → Int → Bool) (x y : Int) (u v : Int) : Bool := d u v || (decide (u = x) && decide (v = y))
theorem trn_set {H x y : Nat} {z : Int} (hL : L.length = W * H) (hx : x < W) (hy : y < H) (hz : L[y * W + x]? = some z) : (trn W g d L).set (y * W + x) (g x y z) = trn W g (add1 d x y) L := by
 refine trn_ext hL (by rw [List.length_set, trn_length, hL]) fun u v hu hv => ?_
 rw [List.getElem?_set]
 by_cases e : y * W + x = v * W + u
 ·have e1 := congrArg (· % W) e
  have e2 := congrArg (· / W) e
  simp only [place_mod hx, place_mod hu, place_div hx, place_div hu] at e1 e2
  subst e1 e2
  rw [if_pos rfl, trn_length, if_pos (by rw [hL]; exact place_lt hx hy), hz]
  simp [add1]
 ·rw [if_neg e, trn_get hu]
  have hn : ¬ ((u : Int) = x ∧ (v : Int) = y) := by
   rintro ⟨h1, h2⟩
   apply e
   have h1 : u = x := by omega
   have h2 : v = y := by omega
   rw [h1, h2]
  have : add1 d x y u v = d u v := by
   rw [add1]
   have : (decide ((u : Int) = x) && decide ((v : Int) = y)) = false := by
    simpa using hn
   rw [this, Bool.or_false]
  rw [this]
end
section
def ct (n : Int) : Int := min (max n 0) 255
def pt0 (u : Int) : Int := u % 256
def pt1 (u : Int) : Int := u / 256 % 256
def pt2 (u : Int) : Int := u / 65536 % 256
def pt3 (u : Int) : Int := u / 16777216 % 256
def jn (a r g b : Int) : Int := ((ct a * 256 + ct r) * 256 + ct g) * 256 + ct b
def scl (x y : Int) : Int := (ct x * ct y + 127) / 255
def ovr (u o : Int) : Int := jn (pt3 o + scl (pt3 u) (255 - pt3 o)) (pt2 o + scl (pt2 u) (255 - pt3 o)) (pt1 o + scl (pt1 u) (255 - pt3 o)) (pt0 o + scl (pt0 u) (255 - pt3 o))
def Col (u : Int) : Prop := 0 ≤ u ∧ u < 4294967296
theorem ct_bd (n : Int) : 0 ≤ ct n ∧ ct n ≤ 255 := by unfold ct; omega
theorem pt0_bd (u : Int) : 0 ≤ pt0 u ∧ pt0 u ≤ 255 := by unfold pt0; omega
theorem pt1_bd (u : Int) : 0 ≤ pt1 u ∧ pt1 u ≤ 255 := by unfold pt1; omega
theorem pt2_bd (u : Int) : 0 ≤ pt2 u ∧ pt2 u ≤ 255 := by unfold pt2; omega
theorem pt3_bd (u : Int) : 0 ≤ pt3 u ∧ pt3 u ≤ 255 := by unfold pt3; omega
theorem jn_bd (a r g b : Int) : Col (jn a r g b) := by
 have := ct_bd a; have := ct_bd r; have := ct_bd g; have := ct_bd b
 unfold Col jn; omega
theorem prod_bd {x y : Int} (hx : 0 ≤ x ∧ x ≤ 255) (hy : 0 ≤ y ∧ y ≤ 255) : 0 ≤ x * y ∧ x * y ≤ 65025 := by
 refine ⟨Int.mul_nonneg hx.1 hy.1, ?_⟩
 have := Int.mul_le_mul hx.2 hy.2 hy.1 (by omega : (0 : Int) ≤ 255)
 omega
theorem scl_bd (x y : Int) : 0 ≤ scl x y ∧ scl x y ≤ 255 := by
 have := prod_bd (ct_bd x) (ct_bd y)
 unfold scl; omega
theorem ovr_bd (u o : Int) : Col (ovr u o) := jn_bd _ _ _ _
theorem wraps_u32 (n : Int) (h₀ : 0 ≤ n) (h₁ : n < 2 ^ 32) : IntKind.u32.wrap n = n := by rw [IntKind.wrap_u32]; omega
theorem or8 {x y : Int} (hx : 0 ≤ x ∧ x < 16777216) (hy : 0 ≤ y ∧ y ≤ 255) : bits .or .u32 (x * 256) y = x * 256 + y :=
 bits_join .u32 32 (by decide) wraps_u32 8 (x * 256) y (by omega) (by omega) (by omega) hy.1 (by omega) (by omega)
theorem orj {x y : Int} (hx : 0 ≤ x ∧ x < 16777216) (hy : 0 ≤ y ∧ y ≤ 255) : bits .or .u32 (x * 256 % 4294967296) y = x * 256 + y := by
 rw [show x * 256 % 4294967296 = x * 256 from by omega]
 exact or8 hx hy
theorem or0 {y : Int} (hy : 0 ≤ y ∧ y ≤ 255) : bits .or .u32 0 y = y := by
 have := or8 (x := 0) (by omega) hy
 rw [Int.zero_mul, Int.zero_add] at this
 exact this
end
end Go.Proofs.YtpbgbpcdohdecaaGreatDoor
