/- The contract of the program's combine. -/
import Derived.Test.YtmiapccngeafkaaDoorBd
import Derived.Test.YtmiapccngeafkaaDoorBa
import Derived.Test.YtmiapccngeafkaaDoorRows
import Derived.WalkKit
import Derived.LaidEql
import Derived.Stop.Asserts
import Derived.Stop.LaidTwo
import Derived.RowKitTokens
import Derived.Outline
import Derived.LaidMore
import Derived.Laws.BitsLemmas
import Derived.Test.YtmiapccngeafkaaDoorBc
import Derived.Laws.OwnMore
import Derived.Laws.CopyRow
import Derived.BigQuiet
namespace Go.Proofs.YtmiapccngeafkaaDoor
open Go Go.RowKit

theorem rows_last {E : Int → List Int} : ∀ (ys : List Int) (y0 : Int) (e : List Int), Turns E y0 e ys → E y0 = e → ∀ j r, ((y0, e) :: rows E e ys)[j]? = some r → r.2 ≠ [] → j + 1 < ((y0, e) :: rows E e ys).length
  | [], y0, e, h, he, j, r, hj, hr => by
    rw [rows] at hj
    cases j with
    | zero =>
      simp only [List.getElem?_cons_zero, Option.some.injEq] at hj
      subst hj
      exact absurd (he.symm.trans (h y0 (Int.le_refl _))) hr
    | succ j => simp at hj
  | y :: t, y0, e, h, he, j, r, hj, hr => by
    obtain ⟨h1, h2, h3⟩ := h
    rw [rows] at hj ⊢
    by_cases hh : E y = e
    · rw [if_pos hh] at hj ⊢
      exact rows_last t y0 e (Turns.on h1 h2 hh h3) he j r hj hr
    · rw [if_neg hh] at hj ⊢
      cases j with
      | zero => simp
      | succ j =>
        rw [List.getElem?_cons_succ] at hj
        have := rows_last t y (E y) h3 rfl j r hj hr
        rw [List.length_cons]
        omega
theorem rows_mem {E : Int → List Int} {r : Int × List Int} : ∀ {ys : List Int} {e : List Int}, r ∈ rows E e ys → r.1 ∈ ys ∧ r.2 = E r.1
  | [], e, h => by rw [rows] at h; cases h
  | y :: t, e, h => by
    rw [rows] at h
    split at h
    · obtain ⟨h1, h2⟩ := rows_mem h
      exact ⟨by simp [h1], h2⟩
    · rcases List.mem_cons.1 h with rfl | h
      · exact ⟨by simp, rfl⟩
      · obtain ⟨h1, h2⟩ := rows_mem h
        exact ⟨by simp [h1], h2⟩
theorem rows_length (E : Int → List Int) : ∀ (ys : List Int) (e : List Int), (rows E e ys).length ≤ ys.length
  | [], _ => by rw [rows]; simp
  | y :: t, e => by
    rw [rows]
    split
    · have := rows_length E t e; simp only [List.length_cons]; omega
    · have := rows_length E t (E y); simp only [List.length_cons]; omega

/-- Cells of rows. -/
def rwc : List (Int × List Int) → List Value → List Value
  | r :: R, v :: vs => .int .i64 r.1 :: v :: rwc R vs
  | _, _ => []
theorem rwc_length : ∀ {R : List (Int × List Int)} {vs : List Value}, vs.length = R.length → (rwc R vs).length = R.length * 2
  | [], _, _ => by simp [rwc]
  | _ :: _, [], h => by simp at h
  | r :: R, v :: vs, h => by
    have := rwc_length (R := R) (vs := vs) (by simpa using h)
    rw [rwc, List.length_cons, List.length_cons, this, List.length_cons]
    omega
theorem rwc_append : ∀ {R : List (Int × List Int)} {vs : List Value} (R' : List (Int × List Int)) (vs' : List Value), vs.length = R.length → rwc (R ++ R') (vs ++ vs') = rwc R vs ++ rwc R' vs'
  | [], [], _, _, _ => rfl
  | [], _ :: _, _, _, h => by simp at h
  | _ :: _, [], _, _, h => by simp at h
  | r :: R, v :: vs, R', vs', h => by
    rw [List.cons_append, List.cons_append, rwc, rwc_append R' vs' (by simpa using h), rwc]
    rfl
theorem rwc_at : ∀ {R : List (Int × List Int)} {vs : List Value} {j : Nat} {r : Int × List Int} {v : Value}, R[j]? = some r → vs[j]? = some v → (rwc R vs)[j * 2]? = some (.int .i64 r.1) ∧ (rwc R vs)[j * 2 + 1]? = some v
  | [], _, j, _, _, h, _ => by simp at h
  | _ :: _, [], j, _, _, _, h => by simp at h
  | x :: R, u :: vs, 0, r, v, h, h' => by
    simp only [List.getElem?_cons_zero, Option.some.injEq] at h h'
    subst h h'
    exact ⟨rfl, rfl⟩
  | x :: R, u :: vs, j + 1, r, v, h, h' => by
    rw [List.getElem?_cons_succ] at h h'
    obtain ⟨h1, h2⟩ := rwc_at h h'
    rw [rwc, show (j + 1) * 2 = j * 2 + 1 + 1 by omega]
    simp only [List.getElem?_cons_succ]
    exact ⟨h1, h2⟩

/-- Rows of the call's own. -/
structure OwW (w u : World) (v : Value) (R : List (Int × List Int)) (vs : List Value) : Prop where
  len : vs.length = R.length
  own : u.ownsRow w.heap.size 106 2 v R.length (rwc R vs)
  eds : ∀ (j : Nat) (r : Int × List Int) (x : Value), R[j]? = some r → vs[j]? = some x → u.ownsRow w.heap.size 3 1 x r.2.length (nums r.2)
  bel : Below w.heap.size w u
theorem OwW.on {w u u' : World} {v : Value} {R : List (Int × List Int)} {vs : List Value} (h : OwW w u v R vs) (hb : Below u.heap.size u u') : OwW w u' v R vs :=
  ⟨h.len, ownsRow_below h.own hb, fun j r x hr hx => ownsRow_below (h.eds j r x hr hx) hb, Below.on h.bel hb⟩
theorem OwW.nil (w : World) : OwW w w (.slice none 0 0) [] [] := ⟨rfl, World.ownsRow_nil _ _ _ _, fun j r x h => by simp at h, Below.refl _ _⟩

/-- A row of one type stays where one of another type grows. -/
theorem own_keep {u u' : World} {base base' e e' size size' n n' : Nat} {v v' : Value} {xs xs' : List Value} (h : u.ownsRow base e size v n xs) (h' : u.ownsRow base' e' size' v' n' xs') (hT : e ≠ e') (g : u.grownBy u' v'.ownBlock) : u'.ownsRow base e size v n xs := by
  refine h.kept g ?_
  rcases h.2 with ⟨rfl, _⟩ | ⟨q, cap, cur, rfl, _, hq, _⟩
  · exact .inl rfl
  · exact .inr (own_ne h' hq hT)

theorem OwW.rdw {w u : World} {v : Value} {R : List (Int × List Int)} {vs : List Value} (h : OwW w u v R vs) : ∃ a c, v = .slice a R.length c ∧ RdW u a R.length c R := by
  rcases h.own.2 with ⟨rfl, h0⟩ | ⟨g, cap, cur, rfl, hb, hg, hn, hm, _, _⟩
  · exact ⟨none, 0, by rw [h0], rfl, by omega, Nat.zero_le _, fun _ => rfl, fun h => absurd h (by omega)⟩
  · have hgl := h.own.lt g rfl
    refine ⟨some ⟨g, 0, none⟩, cap, rfl, rfl, hn, hm, (fun h => by cases h), fun _ => ⟨g, 0, rfl, hgl.2, fun j r hr => ?_⟩⟩
    have hj : j < R.length := (List.getElem?_eq_some_iff.1 hr).1
    have hjv : j < vs.length := by rw [h.len]; exact hj
    have hx : vs[j]? = some vs[j] := List.getElem?_eq_getElem hjv
    obtain ⟨g1, g2⟩ := rwc_at hr hx
    obtain ⟨a, c, hv, hrd⟩ := rdj_of_owns (h.eds j r _ hr hx)
    rw [Nat.zero_add]
    exact ⟨hgl.2, by rw [h.own.cellAt _ (by omega)]; exact g1, a, c, by rw [h.own.cellAt _ (by omega), g2, hv], hrd⟩

theorem infoW : (Tryd.prog.info? 106).map (fun i => (i.zero, i.size, i.bytes)) = some (some (.agg #[.int .i64 0, .slice none 0 0]), 2, 32) := by kernel_rfl
theorem srcW (w : World) (y : Int) (x : Value) (hx : x.oneCell' = true) : Src Tryd.prog 2 98 (.slice (some ⟨w.heap.size, 0, none⟩) 1 1) 1 [.int .i64 y, x] (w.alloc (.cells #[.int .i64 y, x] 106)) :=
  Src.ofSlice (P := Tryd.prog) _ Tryd.underlying98 ⟨w.heap.size, 0, none⟩ 1 1 [.int .i64 y, x] rfl (fun q u hu => by
    match q, hu with
    | 0, hu => cases hu; simp [Addr.add]
    | 1, hu => cases hu; simp [Addr.add]
    | q + 2, hu => simp at hu) (fun u hu => by
    simp only [List.mem_cons, List.not_mem_nil, or_false] at hu
    rcases hu with rfl | rfl
    · rfl
    · exact hx)

theorem OwW.push {w u u' : World} {v7 v11 v' : Value} {R : List (Int × List Int)} {vs : List Value} {E : List Int} {y : Int} (h7 : OwW w u v7 R vs) (h11 : OwJ w u v11 E)
    (o : u'.ownsRow w.heap.size 106 2 v' (R.length + 1) (rwc R vs ++ [.int .i64 y, v11])) (g : (u.alloc (.cells #[.int .i64 y, v11] 106)).grownBy u' v7.ownBlock) : OwW w u' v' (R ++ [(y, E)]) (vs ++ [v11]) ∧ OwJ w u' v11 E := by
  have hb := below_new u (.cells #[.int .i64 y, v11] 106)
  have h7' := h7.on hb
  have h11' := h11.on hb
  have bel : Below w.heap.size w u' := h11'.bel.grown g h11'.bel.size (fun k hk => (h7'.own.lt k hk).1)
  have keep : ∀ {x : Value} {n : Nat} {xs : List Value}, (u.alloc (.cells #[.int .i64 y, v11] 106)).ownsRow w.heap.size 3 1 x n xs → u'.ownsRow w.heap.size 3 1 x n xs := fun hx => own_keep hx h7'.own (by decide) g
  have hlen := h7.len
  refine ⟨⟨by simp [hlen], ?_, fun j r x hr hx => ?_, bel⟩, keep h11'.own, bel⟩
  · rw [rwc_append _ _ hlen, List.length_append]
    exact o
  · rcases Nat.lt_or_ge j R.length with hj | hj
    · rw [List.getElem?_append_left hj] at hr
      rw [List.getElem?_append_left (by omega)] at hx
      exact keep (h7'.eds j r x hr hx)
    · have hj' : j < (R ++ [(y, E)]).length := (List.getElem?_eq_some_iff.1 hr).1
      simp at hj'
      obtain rfl : j = R.length := by omega
      rw [List.getElem?_append_right (Nat.le_refl _), Nat.sub_self] at hr
      rw [List.getElem?_append_right (by omega), hlen, Nat.sub_self] at hx
      simp only [List.getElem?_cons_zero, Option.some.injEq] at hr hx
      subst hr hx
      exact keep h11'.own

set_option maxRecDepth 100000 in
set_option maxHeartbeats 1000000 in
theorem combine_any (a a' : Option Addr) (n c n' c' : Nat) (l m : List Rc) (g : Nat) (f : Bool → Bool → Bool) (w : World) (h : RdC w a n c l) (h' : RdC w a' n' c' m) (hl : Bands l) (hm : Bands m) (hf : f false false = false) (hg : Fn2 g f) (hn : n + n' ≤ 4096) :
    Calls Tryd.prog 62 #[.slice a n c, .slice a' n' c', .func (.func g) #[] #[]] w fun e w' => ∃ v, e = .returned v ∧ OwC w w' v (mk f l m) := by
  have H := hid h
  have H' := hid h'
  have HL := hid h.len
  have HL' := hid h'.len
  have KL := hid hl
  have KM := hid hm
  have HG := hid hg
  have HF := hid hf
  obtain ⟨i0, hi, hz0, hz1, hz2⟩ := info3 infoW
  have CH := hid (heights_any a a' n c n' c' l m w h h' hl.ck hm.ck (by omega) (by omega))
  obtain ⟨ys, hys⟩ : ∃ ys, ys = ysOf (l ++ m) := ⟨_, rfl⟩
  obtain ⟨E, hE⟩ : ∃ E : Int → List Int, E = fun y => mix f false false false (rowE l y) (rowE m y) := ⟨_, rfl⟩
  have HYS := hid hys
  have HE := hid hE
  have hyl : ys.length ≤ 8192 := by
    rw [hys]
    have := ys_length (l ++ m)
    rw [List.length_append, h.len, h'.len] at this
    omega
  rw [← hys] at CH
  clear h h' hl hm hg hf hys hE
  go_enter Tryd.func62, Tryd.ntmps62
  go_wp2_with fail
  refine CH.out.mono ?_
  rintro e w1 ⟨v1, rfl, hv1⟩
  obtain ⟨ay, cy, rfl, hry⟩ := rdj_of_owns hv1.own
  have HRY := hid hry
  have HB1 := hid hv1.bel
  have hys63 := hry.small
  clear hv1 hry CH
  go_wp2
  go_loopw [0, 1, 7, 8, 16] (fun s0 s1 s7 s8 s16 wr => ∃ (i : Nat) (l1 m1 : List Rc) (a1 : Option Addr) (c1 : Nat) (a2 : Option Addr) (c2 : Nat) (R : List (Int × List Int)) (vs : List Value) (e : List Int), s16 = .int .i64 i ∧ s0 = .slice a1 l1.length c1 ∧ s1 = .slice a2 m1.length c2 ∧ i ≤ ys.length ∧ RdC w a1 l1.length c1 l1 ∧ RdC w a2 m1.length c2 m1 ∧ (∀ x ∈ l1, x ∈ l) ∧ (∀ x ∈ m1, x ∈ m) ∧ l1.length ≤ n ∧ m1.length ≤ n' ∧ (∀ z ∈ ys.drop i, frm l1 z = frm l z ∧ frm m1 z = frm m z) ∧ R ++ rows E e (ys.drop i) = rows E [] ys ∧ OwW w1 wr s7 R vs ∧ OwJ w1 wr s8 e) (fun _ _ _ _ s16 _ => ys.length - (numOf s16).toNat)
  case atStart => exact ⟨0, l, m, a, c, a', c', [], [], [], rfl, by rw [HL.out], by rw [HL'.out], by omega, by rw [HL.out]; exact H.out, by rw [HL'.out]; exact H'.out, fun _ h => h, fun _ h => h, by rw [HL.out]; exact Nat.le_refl _, by rw [HL'.out]; exact Nat.le_refl _, fun _ _ => ⟨rfl, rfl⟩, rfl, OwW.nil w1, ⟨World.ownsRow_nil _ _ _ _, Below.refl _ _⟩⟩
  case round =>
    obtain ⟨i, l1, m1, a1, c1, a2, c2, R, vs, e, rfl, rfl, rfl, hi1, h0, h1, s0, s1, n0, n1, hfr, hR, h7, h8⟩ := hrel
    have H0 := hid h0
    have H1 := hid h1
    have S0 := hid s0
    have S1 := hid s1
    have HFR := hid hfr
    have HR := hid hR
    have H7 := hid h7
    have H8 := hid h8
    have HBL := hid h7.bel
    have HBW0 := hid (Below.on HB1.out h7.bel)
    clear h0 h1 s0 s1 hfr hR h7 h8
    by_cases hgo : i < ys.length
    · have e1 : decide ((i : Int) < ys.length) = true := decide_eq_true (by omega)
      obtain ⟨by_, oy, y, hay, _, hyi, cy0⟩ := (HRY.out.on HBL.out).el hgo
      have HDY := hid (drop_at hyi)
      have hyin : y ∈ ys.drop i := by rw [HDY.out]; simp
      obtain ⟨f0, f1⟩ := HFR.out y hyin
      have hyb : -16777216 ≤ y ∧ y ≤ 16777216 := ys_in (a := l ++ m) (ck_both KL.out.ck KM.out.ck) (by rw [← HYS.out]; exact List.mem_of_getElem? hyi)
      have C1 := hid (fun u hu => from_any a1 l1.length c1 l1 y w u H0.out hu (fun x hx => KL.out.ck x (S0.out x hx)))
      have C2 := hid (fun u hu => from_any a2 m1.length c2 m1 y w u H1.out hu (fun x hx => KM.out.ck x (S1.out x hx)))
      have HSUB : Hid ((∀ x ∈ frm l y, x ∈ l) ∧ (∀ x ∈ frm m y, x ∈ m) ∧ (frm l y).length ≤ n ∧ (frm m y).length ≤ n') := by
        refine ⟨fun x hx => (List.dropWhile_sublist _).mem hx, fun x hx => (List.dropWhile_sublist _).mem hx, ?_, ?_⟩
        · rw [← HL.out]; exact (List.dropWhile_sublist _).length_le
        · rw [← HL'.out]; exact (List.dropWhile_sublist _).length_le
      rw [f0] at C1
      rw [f1] at C2
      have HNX : Hid (∀ z ∈ ys.drop (i + 1), frm (frm l y) z = frm l z ∧ frm (frm m y) z = frm m z) := fun z hz => by
        have hlt : y < z := by
          have hp : (ys.drop i).Pairwise (· < ·) := by rw [HYS.out]; exact (ys_rise _).sublist (List.drop_sublist _ _)
          rw [HDY.out] at hp
          exact (List.pairwise_cons.1 hp).1 z hz
        exact ⟨frm_frm (by omega), frm_frm (by omega)⟩
      subst hay
      have hi3 : (i : Int) < ys.length := by omega
      clear hyi f0 f1 hyin
      go_wp2_with fail
      refine (C1.out _ HBW0.out).mono ?_
      rintro e w2 ⟨a3, c3, rfl, h3, q2, rfl⟩
      go_wp2_with fail
      refine (C2.out _ (below_drewN HBW0.out q2)).mono ?_
      rintro e w3 ⟨a4, c4, rfl, h4, q3, rfl⟩
      have H3 := hid h3
      have H4 := hid h4
      have HQ := hid (below_drewN (below_drewN (Below.refl wr.heap.size wr) q2) q3)
      clear h3 h4 C1 C2
      generalize (wr.drewN q2).drewN q3 = w3 at HQ ⊢
      have D1 := hid (fun u hu => edgesat_any a3 (frm l y).length c3 (frm l y) y u hu (fun x hx => KL.out.ck x (HSUB.out.1 x hx)) (by have := HSUB.out.2.2.1; omega))
      have D2 := hid (fun u hu => edgesat_any a4 (frm m y).length c4 (frm m y) y u hu (fun x hx => KM.out.ck x (HSUB.out.2.1 x hx)) (by have := HSUB.out.2.2.2; omega))
      rw [edg_row KL.out] at D1
      rw [edg_row KM.out] at D2
      go_wp2_with fail
      refine (D1.out _ (H3.out.on (Below.on HBW0.out HQ.out))).mono ?_
      rintro e w4 ⟨v4, rfl, h5⟩
      go_wp2_with fail
      refine (D2.out _ (H4.out.on (Below.on HBW0.out (Below.on HQ.out h5.bel)))).mono ?_
      rintro e w5 ⟨v5, rfl, h6⟩
      obtain ⟨a5, c5, rfl, r5⟩ := rdj_of_owns (h5.on h6.bel).own
      obtain ⟨a6, c6, rfl, r6⟩ := rdj_of_owns h6.own
      have HB5 := hid (Below.on HQ.out (Below.on h5.bel h6.bel))
      have CM := hid (mix_any a5 a6 (rowE l y).length c5 (rowE m y).length c6 (rowE l y) (rowE m y) g f w5 r5 r6 HG.out (by have := rowE_length l y; rw [HL.out] at this; omega) (by have := rowE_length m y; rw [HL'.out] at this; omega))
      have HEy : Hid (mix f false false false (rowE l y) (rowE m y) = E y) := by rw [HE.out]; rfl
      rw [HEy.out] at CM
      clear h5 h6 r5 r6 D1 D2
      go_wp2_with fail
      refine CM.out.mono ?_
      rintro e w6 ⟨v6, rfl, h7⟩
      obtain ⟨a7, c7, hv7, r7⟩ := rdj_of_owns h7.own
      have HB6 := hid (Below.on HB5.out h7.bel)
      have HV6 := hid (h7.base (Below.on H7.out.bel HB5.out))
      clear CM HB5
      have H8' := hid (H8.out.on HB6.out)
      have H7' := hid (H7.out.on HB6.out)
      obtain ⟨a8, c8, hv8, r8⟩ := rdj_of_owns H8'.out.own
      subst hv7
      subst hv8
      have CE := hid (equal_any a7 a8 (E y).length c7 e.length c8 (E y) e w6 r7 r8)
      clear r7 r8 h7
      have HRR : Hid (rows E e (ys.drop i) = if E y = e then rows E e (ys.drop (i + 1)) else (y, E y) :: rows E (E y) (ys.drop (i + 1))) := by rw [Hid, HDY.out, rows]
      have hRl : R.length ≤ 8192 := by
        have := congrArg List.length HR.out
        rw [List.length_append] at this
        have h2 := rows_length E ys []
        omega
      cases hq : eqi (E y) e
      · rw [hq] at CE
        have hne : E y ≠ e := by simpa [eqi] using hq
        have HR2 : Hid ((R ++ [(y, E y)]) ++ rows E (E y) (ys.drop (i + 1)) = rows E [] ys) := by
          have := HR.out
          rw [HRR.out, if_neg hne] at this
          rw [Hid, ← this, List.append_assoc]
          rfl
        clear hne HRR HR
        go_wp2_with fail
        refine CE.out.mono ?_
        rintro e9 w7 ⟨rfl, q7, rfl⟩
        have HQ7 := below_drewN (Below.refl w6.heap.size w6) q7
        have G7 := hid (H7'.out.on HQ7)
        have G8 := hid (HV6.out.on HQ7)
        clear CE H7' H8' HV6 HQ7
        generalize w6.drewN q7 = w7 at G7 G8 ⊢
        have HOW := hid ((G7.out.on (below_new w7 (.cells #[.int .i64 y, .slice a7 (E y).length c7] 106))).own)
        have HSZ := (G7.out.on (below_new w7 (.cells #[.int .i64 y, .slice a7 (E y).length c7] 106))).bel.size
        have HSR := hid (srcW w7 y (.slice a7 (E y).length c7) rfl)
        have HA : Hid (∀ v' w', w'.ownsRow w1.heap.size 106 2 v' (R.length + 1) (rwc R vs ++ [.int .i64 y, .slice a7 (E y).length c7]) → (w7.alloc (.cells #[.int .i64 y, .slice a7 (E y).length c7] 106)).grownBy w' u7.ownBlock → OwW w1 w' v' (R ++ [(y, E y)]) (vs ++ [.slice a7 (E y).length c7]) ∧ OwJ w1 w' (.slice a7 (E y).length c7) (E y)) := fun v' w' o g' => G7.out.push G8.out o g'
        go_wp2_with (at_builtin; refine wpList_append_own_src _ rfl (.tmp 38) (.tmp 42) 98 98 rfl w1.heap.size 106 i0 (.agg #[.int .i64 0, .slice none 0 0]) 2 32 Tryd.underlying98 hi hz0 hz1 hz2 rfl _ _ _ rfl HOW.out _ _ _ rfl HSR.out (by simp only [maxLen]; omega) (fits32 (by omega)) HSZ ?_; intro v9 w9 o9 g9; have H9 := hid (HA.out _ _ o9 g9); clear o9 g9 HA HOW HSR HSZ)
        go_wp2
        go_roundw
        case rel => exact ⟨i + 1, frm l y, frm m y, a3, c3, a4, c4, R ++ [(y, E y)], vs ++ [.slice a7 (E y).length c7], E y, by go_num, rfl, rfl, by omega, H3.out, H4.out, HSUB.out.1, HSUB.out.2.1, HSUB.out.2.2.1, HSUB.out.2.2.2, HNX.out, HR2.out, H9.out.1, H9.out.2⟩
        case measure => simp [numOf]; omega
      · rw [hq] at CE
        have hne : E y = e := by simpa [eqi] using hq
        have HR2 : Hid (R ++ rows E e (ys.drop (i + 1)) = rows E [] ys) := by
          have := HR.out
          rw [HRR.out, if_pos hne] at this
          exact this
        clear hne HRR HR
        go_wp2_with fail
        refine CE.out.mono ?_
        rintro e9 w7 ⟨rfl, q7, rfl⟩
        have HQ7 := below_drewN (Below.refl w6.heap.size w6) q7
        have G7 := hid (H7'.out.on HQ7)
        have G8 := hid (H8'.out.on HQ7)
        clear CE H7' H8' HV6 HQ7
        generalize w6.drewN q7 = w7 at G7 G8 ⊢
        go_wp2
        go_roundw
        case rel => exact ⟨i + 1, frm l y, frm m y, a3, c3, a4, c4, R, vs, e, by go_num, rfl, rfl, by omega, H3.out, H4.out, HSUB.out.1, HSUB.out.2.1, HSUB.out.2.2.1, HSUB.out.2.2.2, HNX.out, HR2.out, G7.out, G8.out⟩
        case measure => simp [numOf]; omega
    · have e1 : decide ((i : Int) < ys.length) = false := decide_eq_false (by omega)
      have HR2 : Hid (R = rows E [] ys) := by
        have := HR.out
        rw [List.drop_eq_nil_of_le (by omega), rows, List.append_nil] at this
        exact this
      obtain ⟨a9, c9, hv9, r9⟩ := H7.out.rdw
      have HEL : Hid (∀ z, E z = lin f l m z) := fun z => by rw [HE.out]; exact mix_lin HF.out KL.out KM.out z
      have HED := hid (lin_edges HF.out KL.out.ck KM.out.ck)
      have HT : Hid (Turns E (-16777217) [] ys) := by
        rw [Hid, funext HEL.out, HYS.out]
        exact lin_turns HF.out KL.out.ck KM.out.ck
      have h00 : E (-16777217) = [] := by
        rw [HEL.out]
        exact lin_none HF.out KL.out.ck KM.out.ck fun x => ⟨pt_out KL.out.ck (by omega), pt_out KM.out.ck (by omega)⟩
      have HLA : Hid (∀ j r, R[j]? = some r → r.2 ≠ [] → j + 1 < R.length) := fun j r hj hr => by
        rw [HR2.out] at hj ⊢
        have := rows_last ys (-16777217) [] HT.out h00 (j + 1) r (by rw [List.getElem?_cons_succ]; exact hj) hr
        simpa using this
      have HMR : Hid (∀ r ∈ R, r.1 ∈ ys ∧ r.2 = lin f l m r.1) := fun r hr => by
        rw [HR2.out] at hr
        obtain ⟨g1, g2⟩ := rows_mem hr
        exact ⟨g1, by rw [g2, HEL.out]⟩
      have hRl : R.length ≤ 8192 := by
        rw [HR2.out]
        have := rows_length E ys []
        omega
      have HXL : Hid ((xsOf (l ++ m)).length ≤ 8192) := by
        have := xs_length (l ++ m)
        rw [List.length_append, HL.out, HL'.out] at this
        rw [Hid]
        omega
      have CB := hid (bands_any a9 R.length c9 R wr r9 (fun r hr => by rw [(HMR.out r hr).2]; exact HED.out.even _) HLA.out (fun r hr => ys_in (ck_both KL.out.ck KM.out.ck) (by rw [← HYS.out]; exact (HMR.out r hr).1)) (fun r hr x hx => xs_in (ck_both KL.out.ck KM.out.ck) (lin_mem (by rw [(HMR.out r hr).2] at hx; exact hx))) (by omega) (fun r hr => by rw [(HMR.out r hr).2]; have := (chg_sub (fun x => f (pt l x r.1) (pt m x r.1)) (xsOf (l ++ m)) false).length_le; have h2 := HXL.out; unfold lin; omega))
      have HMK : Hid (bnds R = mk f l m) := by
        rw [Hid, HR2.out, HE.out, HYS.out]
        exact rows_mk HF.out KL.out KM.out
      have HW := hid (Below.on HB1.out H7.out.bel)
      rw [HMK.out] at CB
      subst hv9
      clear r9
      go_wp2_with fail
      refine CB.out.mono ?_
      rintro e9 w9 ⟨v9, rfl, h9⟩
      have H9 := hid (h9.base HW.out)
      clear h9
      go_wp2
      go_ret
      exact ⟨_, rfl, H9.out⟩
end Go.Proofs.YtmiapccngeafkaaDoor

/- The contracts of the program's Union, Subtract, Intersect, Of, Area, Cover, Has. -/
namespace Go.Proofs.YtmiapccngeafkaaDoor
open Go Go.RowKit

set_option maxRecDepth 100000 in
theorem fn_or : Fn2 63 or := by
  refine ⟨enters_of Tryd.func63 (by kernel_rfl) rfl, fun p q u => ?_⟩
  cases p <;> cases q
  all_goals
    go_enter Tryd.func63, Tryd.ntmps63
    go_wp2
    go_ret
    exact ⟨rfl, rfl⟩




/-- What comes of two regions; nil of others. -/
def unn (f : Bool → Bool → Bool) (l m : List Rc) : List Rc := if rgn l = true ∧ rgn m = true then mk f l m else []
theorem unn_ok {f : Bool → Bool → Bool} (hf : f false false = false) (l m : List Rc) : ∀ r ∈ unn f l m, r.Ok := fun r hr => by
  unfold unn at hr
  split at hr
  · rename_i h
    exact ((mk_all hf (rgn_iff.1 h.1).ck (rgn_iff.1 h.2).ck).1.ck r hr).ok
  · cases hr
theorem unn_reg {f : Bool → Bool → Bool} {l m : List Rc} (hl : Reg l) (hm : Reg m) : unn f l m = mk f l m := by rw [unn, if_pos ⟨rgn_iff.2 hl, rgn_iff.2 hm⟩]

set_option maxRecDepth 100000 in
set_option maxHeartbeats 1000000 in
theorem union_any (a a' : Option Addr) (n c n' c' : Nat) (l m : List Rc) (w : World) (h : RdC w a n c l) (h' : RdC w a' n' c' m) (hn : n + n' ≤ 4096) :
    Calls Tryd.prog 56 #[.slice a n c, .slice a' n' c'] w (Ret w (unn or l m)) := by
  have H := hid h
  have H' := hid h'
  have C1 := hid (fun u hu => regcheck_any a n c l u hu)
  have C2 := hid (fun u hu => regcheck_any a' n' c' m u hu)
  have HOK := hid (unn_ok (f := or) rfl l m)
  clear h h'
  cases h1 : rgn l
  · have HU : Hid (unn or l m = []) := by rw [Hid, unn, if_neg (by rw [h1]; simp)]
    rw [h1] at C1
    go_enter Tryd.func56, Tryd.ntmps56
    go_wp2_with fail
    refine (C1.out _ H.out).mono ?_
    rintro e w1 ⟨rfl, hb1⟩
    go_wp2
    go_ret
    rw [HU.out]
    exact ⟨none, 0, rfl, RdC.nil _, hb1⟩
  · rw [h1] at C1
    cases h2 : rgn m
    · have HU : Hid (unn or l m = []) := by rw [Hid, unn, if_neg (by rw [h2]; simp)]
      rw [h2] at C2
      go_enter Tryd.func56, Tryd.ntmps56
      go_wp2_with fail
      refine (C1.out _ H.out).mono ?_
      rintro e w1 ⟨rfl, hb1⟩
      go_wp2_with fail
      refine (C2.out _ (H'.out.on hb1)).mono ?_
      rintro e w2 ⟨rfl, hb2⟩
      go_wp2
      go_ret
      rw [HU.out]
      exact ⟨none, 0, rfl, RdC.nil _, Below.on hb1 hb2⟩
    · have HU : Hid (unn or l m = mk or l m) := by rw [Hid, unn, if_pos ⟨h1, h2⟩]
      rw [h2] at C2
      have CC := hid (fun u hu hu' => combine_any a a' n c n' c' l m 63 or u hu hu' (rgn_iff.1 h1).bands (rgn_iff.1 h2).bands rfl fn_or hn)
      rw [← HU.out] at CC
      go_enter Tryd.func56, Tryd.ntmps56
      go_wp2_with fail
      refine (C1.out _ H.out).mono ?_
      rintro e w1 ⟨rfl, hb1⟩
      go_wp2_with fail
      refine (C2.out _ (H'.out.on hb1)).mono ?_
      rintro e w2 ⟨rfl, hb2⟩
      have HB := hid (Below.on hb1 hb2)
      clear hb1 hb2
      go_wp2_with fail
      refine (CC.out _ (H.out.on HB.out) (H'.out.on HB.out)).mono ?_
      rintro e w3 ⟨v3, rfl, h3⟩
      have H3 := hid ((h3.base HB.out).ret HOK.out)
      clear h3
      go_wp2
      go_ret
      exact H3.out



set_option maxRecDepth 100000 in
set_option maxHeartbeats 1000000 in
theorem of_any (r : Rc) (ok : r.Ok) (w : World) : Calls Tryd.prog 57 #[.agg #[.int .i64 r.x, .int .i64 r.y, .int .i64 r.w, .int .i64 r.h]] w (Ret w (ofl r)) := by
  have CB := hid (fun u => bound_any r ok u)
  have CE := hid (fun u => empty_any (bnd r) u)
  go_enter Tryd.func57, Tryd.ntmps57
  go_wp2_with fail
  refine (CB.out _).mono ?_
  rintro e w1 ⟨rfl, hb1⟩
  obtain ⟨hX, hw⟩ := box1 r hb1
  have HX := hid (hX.st (bnd r))
  have HW := hid (below_st hw (Nat.le_refl _) (bnd r))
  obtain ⟨c0, c1, c2, c3⟩ := hX.all
  have fz := hX.fz
  clear hb1 hX hw CB
  cases he : emp (bnd r)
  · rw [he] at CE
    have HU : Hid (ofl r = [bnd r]) := by rw [Hid, ofl, if_neg (by rw [he]; decide)]
    have HK : Hid (Ck (bnd r)) := (bnd_cases r).resolve_left (by rw [he]; decide)
    go_wp2_with fail
    refine (CE.out _).mono ?_
    rintro e w2 ⟨rfl, hb2⟩
    have hX2 : Bx w2 w.heap.size (bnd r) := HX.out.on hb2
    have HW2 : Hid (Below w.heap.size w w2) := Below.on HW.out hb2
    obtain ⟨d0, d1, d2, d3⟩ := hX2.all
    have HO : Hid (OwC w (w2.alloc (.cells #[.int .i64 (bnd r).x, .int .i64 (bnd r).y, .int .i64 (bnd r).w, .int .i64 (bnd r).h] 24)) (.slice (some ⟨w2.heap.size, 0, none⟩) 1 1) [bnd r]) := ⟨World.ownsRow_lit w2 _ 1 HW2.out.size (by decide) rfl, HW2.out.alloc HW2.out.size _⟩
    clear hX2 hb2 HX HW c0 c1 c2 c3 fz
    go_wp2
    go_ret
    rw [HU.out]
    exact HO.out.ret (fun x hx => by simp only [List.mem_singleton] at hx; rw [hx]; exact HK.out.ok)
  · rw [he] at CE
    have HU : Hid (ofl r = []) := by rw [Hid, ofl, if_pos he]
    go_wp2_with fail
    refine (CE.out _).mono ?_
    rintro e w2 ⟨rfl, hb2⟩
    have HW2 : Hid (Below w.heap.size w w2) := Below.on HW.out hb2
    clear hb2
    go_wp2
    go_ret
    rw [HU.out]
    exact ⟨none, 0, rfl, RdC.nil _, HW2.out⟩

end Go.Proofs.YtmiapccngeafkaaDoor

/- Regions within a grid; a rectangle that is a row of one: for region and canvas alike. -/
namespace Go.Proofs.YtmiapccngeafkaaDoor
open Go Go.RowKit

/-- A region whose edges are among p across and p down. -/
structure Gd (p : Nat) (l : List Rc) : Prop where
  reg : Reg l
  grid : ∃ X Y, Grid X Y l ∧ X.length ≤ p ∧ Y.length ≤ p
theorem Gd.len {p : Nat} {l : List Rc} (h : Gd p l) : l.length ≤ p * p := by
  obtain ⟨X, Y, g, hx, hy⟩ := h.grid
  exact Nat.le_trans (grid_len h.reg.bands g) (Nat.mul_le_mul hx hy)
theorem gd_both {p q : Nat} {f : Bool → Bool → Bool} {a b : List Rc} (ha : Gd p a) (hb : Gd q b) (hf : f false false = false) : Gd (p + q) (mk f a b) := by
  obtain ⟨X, Y, g, hx, hy⟩ := ha.grid
  obtain ⟨X', Y', g', hx', hy'⟩ := hb.grid
  refine ⟨(mk_all hf ha.reg.ck hb.reg.ck).1, X ++ X', Y ++ Y', grid_mk hf ha.reg.ck hb.reg.ck (g.mono (fun x h => by simp [h]) (fun x h => by simp [h])) (g'.mono (fun x h => by simp [h]) (fun x h => by simp [h])), by rw [List.length_append]; omega, by rw [List.length_append]; omega⟩
theorem mkp {f : Bool → Bool → Bool} (hf : f false false = false) {a b : List Rc} (ha : Reg a) (hb : Reg b) (x y : Int) : pt (mk f a b) x y = f (pt a x y) (pt b x y) := (mk_all hf ha.ck hb.ck).2.1 x y
theorem union_reg {a a' : Option Addr} {n c n' c' p q : Nat} {l m : List Rc} {w : World} (h : RdC w a n c l) (h' : RdC w a' n' c' m) (hl : Gd p l) (hm : Gd q m) (hn : p * p + q * q ≤ 4096) : Calls Tryd.prog 56 #[.slice a n c, .slice a' n' c'] w (Ret w (mk or l m)) := by
  rw [← unn_reg hl.reg hm.reg]
  exact union_any a a' n c n' c' l m w h h' (by have := hl.len; have := hm.len; have := h.len; have := h'.len; omega)

theorem rdc_lit (w : World) (r : Rc) (ok : r.Ok) : RdC (w.alloc (.cells #[.int .i64 r.x, .int .i64 r.y, .int .i64 r.w, .int .i64 r.h] 24)) (some ⟨w.heap.size, 0, none⟩) 1 1 [r] := by
  refine ⟨rfl, Nat.le_refl _, by decide, (fun h => by cases h), fun _ => ⟨w.heap.size, 0, rfl, by simp, fun j x hx => ?_⟩, fun x hx => ?_⟩
  · cases j with
    | zero =>
      simp only [List.getElem?_cons_zero, Option.some.injEq] at hx
      subst hx
      have := bx_new w r
      obtain ⟨h0, h1, h2, h3⟩ := this.all
      exact ⟨by simp, h0, h1, h2, h3⟩
    | succ j => simp at hx
  · simp only [List.mem_singleton] at hx
    rw [hx]
    exact ok

end Go.Proofs.YtmiapccngeafkaaDoor

/- A screen's points as a list, row by row; points turned where a predicate holds. -/
namespace Go.Proofs.YtmiapccngeafkaaDoor
open Go

/-- The points of L (rows of W), turned by g where d holds. -/
def trn (W : Nat) (g : Int → Int → Int → Int) (d : Int → Int → Bool) (L : List Int) : List Int :=
  L.mapIdx fun i z => if d ((i % W : Nat) : Int) ((i / W : Nat) : Int) then g ((i % W : Nat) : Int) ((i / W : Nat) : Int) z else z

variable {W : Nat} {g : Int → Int → Int → Int} {d d' : Int → Int → Bool} {L : List Int}

theorem trn_length : (trn W g d L).length = L.length := by simp [trn]

theorem place_lt {W H x y : Nat} (hx : x < W) (hy : y < H) : y * W + x < W * H := by
  have : (y + 1) * W ≤ H * W := Nat.mul_le_mul_right W hy
  rw [Nat.add_mul, Nat.one_mul] at this
  rw [Nat.mul_comm W H]
  omega
theorem place_mod {W x y : Nat} (hx : x < W) : (y * W + x) % W = x := by
  rw [Nat.mul_comm, Nat.mul_add_mod, Nat.mod_eq_of_lt hx]
theorem place_div {W x y : Nat} (hx : x < W) : (y * W + x) / W = y := by
  rw [Nat.mul_comm, Nat.mul_add_div (by omega), Nat.div_eq_of_lt hx, Nat.add_zero]
theorem place_eq {W H i : Nat} (hi : i < W * H) : ∃ x y, x < W ∧ y < H ∧ i = y * W + x := by
  have hW : 0 < W := by
    rcases Nat.eq_zero_or_pos W with h | h
    · subst h; simp at hi
    · exact h
  refine ⟨i % W, i / W, Nat.mod_lt _ hW, Nat.div_lt_of_lt_mul hi, ?_⟩
  rw [Nat.mul_comm]
  exact (Nat.div_add_mod i W).symm

theorem trn_get {x y : Nat} (hx : x < W) : (trn W g d L)[y * W + x]? = L[y * W + x]?.map fun z => if d x y then g x y z else z := by
  rw [trn, List.getElem?_mapIdx, place_mod hx, place_div hx]

theorem trn_ext {H : Nat} {M : List Int} (hL : L.length = W * H) (hM : M.length = W * H) (h : ∀ x y : Nat, x < W → y < H → M[y * W + x]? = L[y * W + x]?.map fun z => if d x y then g x y z else z) : M = trn W g d L := by
  apply List.ext_getElem?
  intro i
  by_cases hi : i < W * H
  · obtain ⟨x, y, hx, hy, rfl⟩ := place_eq hi
    rw [h x y hx hy, trn_get hx]
  · rw [List.getElem?_eq_none (by omega), List.getElem?_eq_none (by rw [trn_length]; omega)]

theorem trn_congr {H : Nat} (hL : L.length = W * H) (h : ∀ x y : Nat, x < W → y < H → d x y = d' x y) : trn W g d L = trn W g d' L :=
  trn_ext hL (by rw [trn_length, hL]) fun x y hx hy => by rw [trn_get hx, h x y hx hy]

theorem trn_none {H : Nat} (hL : L.length = W * H) (h : ∀ x y : Nat, x < W → y < H → d x y = false) : trn W g d L = L :=
  (trn_ext hL hL fun x y hx hy => by
    rw [h x y hx hy]
    cases L[y * W + x]? <;> rfl).symm

/-- The point (x, y) and those of d. -/
def add1 (d : Int → Int → Bool) (x y : Int) (u v : Int) : Bool := d u v || (decide (u = x) && decide (v = y))

theorem trn_set {H x y : Nat} {z : Int} (hL : L.length = W * H) (hx : x < W) (hy : y < H) (hz : L[y * W + x]? = some z) : (trn W g d L).set (y * W + x) (g x y z) = trn W g (add1 d x y) L := by
  refine trn_ext hL (by rw [List.length_set, trn_length, hL]) fun u v hu hv => ?_
  rw [List.getElem?_set]
  by_cases e : y * W + x = v * W + u
  · have e1 := congrArg (· % W) e
    have e2 := congrArg (· / W) e
    simp only [place_mod hx, place_mod hu, place_div hx, place_div hu] at e1 e2
    subst e1 e2
    rw [if_pos rfl, trn_length, if_pos (by rw [hL]; exact place_lt hx hy), hz]
    simp [add1]
  · rw [if_neg e, trn_get hu]
    have hn : ¬ ((u : Int) = x ∧ (v : Int) = y) := by
      rintro ⟨h1, h2⟩
      apply e
      have h1 : u = x := by omega
      have h2 : v = y := by omega
      rw [h1, h2]
    have : add1 d x y u v = d u v := by
      rw [add1]
      have : (decide ((u : Int) = x) && decide ((v : Int) = y)) = false := by
        simpa using hn
      rw [this, Bool.or_false]
    rw [this]

theorem trn_all {P : Int → Prop} (hL : ∀ z ∈ L, P z) (hg : ∀ x y z, P z → P (g x y z)) : ∀ z ∈ trn W g d L, P z := by
  intro z hz
  obtain ⟨i, hi⟩ := List.getElem?_of_mem hz
  rw [trn, List.getElem?_mapIdx] at hi
  cases e : L[i]? with
  | none => rw [e] at hi; cases hi
  | some t =>
    rw [e] at hi
    have ht := hL t (List.mem_of_getElem? e)
    simp only [Option.map_some, Option.some.injEq] at hi
    subst hi
    split
    · exact hg _ _ _ ht
    · exact ht
end Go.Proofs.YtmiapccngeafkaaDoor

/- The program's listed errors: what the row's list of package-level variables gives a walk (each variable holds a pointer of its own to an errors.errorString), and errors.Is on two of them; no condition but that list. -/
namespace Go.Proofs.YtmiapccngeafkaaDoor
open Go Go.RowKit

/-- The variable g holds a pointer to the error at a. -/
def Sent (w : World) (g : Nat) (a : Addr) : Prop := w.cell? ⟨g, 0, none⟩ = some (.iface 134 (.pointer (some a))) ∧ ∃ c t, w.heap[a.block]? = some (.cells c t (0, 0))

/-- The variables gs hold pointers to the errors at es, each another one. -/
structure Errs (w : World) (gs : List Nat) (es : List Addr) : Prop where
  len : es.length = gs.length
  nodup : es.Nodup
  each : ∀ (i : Nat) (g : Nat) (a : Addr), gs[i]? = some g → es[i]? = some a → Sent w g a

theorem Sent.below {w w' : World} {g : Nat} {a : Addr} (h : Sent w g a) (hb : Below w.heap.size w w') : Sent w' g a := by
  obtain ⟨h1, c, t, h2⟩ := h
  refine ⟨?_, c, t, ?_⟩
  · rw [hb.cell (World.block_lt_of_cell? w _ h1)]
    exact h1
  · rw [hb.block _ (Array.getElem?_eq_some_iff.1 h2).1]
    exact h2

theorem Errs.below {w w' : World} {gs : List Nat} {es : List Addr} (h : Errs w gs es) (hb : Below w.heap.size w w') : Errs w' gs es :=
  ⟨h.len, h.nodup, fun i g a hg ha => (h.each i g a hg ha).below hb⟩

theorem row_one (a : Addr) : MemPlace.row a 1 = [.cell a.block a.off] := by simp [MemPlace.row]

theorem sents_of_laid {P : Program} {W : World} {nm : String} {ti tp te ts : TypeId} {ms : Array (String × TypeId)} {f : Field}
    (hi : P.underlying ti = some (.interface ms)) (hrow : ∀ u, P.typeName? 3 u = some nm → u = tp)
    (hp : P.underlying tp = some (.pointer te)) (he : P.underlying te = some (.struct #[f])) (hft : f.type = ts) (hfo : f.offset = 0) (hs : P.underlying ts = some .string) (hc : P.cellsOf te = 1) (hcs : P.cellsOf ts = 1) :
    ∀ (L : List (String × DataW Unit × Nat)) (ps : List MemPlace), (∀ x ∈ L, P.globalNamed x.1 = some x.2.2 ∧ (P.globals[x.2.2]?).map (·.type) = some ti ∧ ∃ t, x.2.1 = .iface nm (.ptr (.agg [.lit (.string t)]))) →
      DataW.LaidVars P W (L.map fun x => (x.1, x.2.1)) ps →
      (∀ b off, MemPlace.cell b off ∈ ps → (∃ c t, W.heap[b]? = some (.cells c t (0, 0))) ∧ ∀ u v, W.cell? ⟨b, off, none⟩ = some (.iface u v) → Value.okWide P W .any 0 u v) →
      ∃ es : List Addr, es.length = L.length ∧ List.Sublist (es.map fun a => MemPlace.cell a.block a.off) ps ∧
        ∀ (i : Nat) (g : Nat) (a : Addr), (L.map fun x => x.2.2)[i]? = some g → es[i]? = some a → W.cell? ⟨g, 0, none⟩ = some (.iface tp (.pointer (some a))) ∧ ∃ c t, W.heap[a.block]? = some (.cells c t (0, 0)) := by
  intro L
  induction L with
  | nil =>
    intro ps _ _ _
    exact ⟨[], rfl, List.nil_sublist _, fun i g a h => by simp at h⟩
  | cons x L ih =>
    intro ps hL hv hrows
    obtain ⟨n, d, g0⟩ := x
    obtain ⟨hg0, ht0, text, hd⟩ := hL _ (List.mem_cons_self ..)
    obtain ⟨g, t, cs, fuel, p, q, hg, ht, hvar, htrod, hq, rfl⟩ := hv
    simp only at hg0 ht0 hd
    obtain rfl := Option.some.inj (hg0.symm.trans hg)
    obtain rfl := Option.some.inj (ht0.symm.trans ht)
    obtain ⟨es, h1, h2, h3⟩ := ih q (fun x hx => hL x (List.mem_cons_of_mem _ hx)) hq (fun b off hm => hrows b off (List.mem_append_right _ hm))
    obtain ⟨l0⟩ := cs
    have ok0 : ∀ u v, l0 = [.iface u v] → Value.okWide P W .any 0 u v := fun u v e => by
      subst e
      exact (hrows g0 0 (by simp [MemPlace.row])).2 u v (by simpa using World.var?_cell hg hvar 0)
    subst hd
    obtain ⟨a0, s0, rfl, hc0, hs0, hz0, rfl⟩ := errorString_of_trod hi hrow hp he hft hfo hs hc hcs htrod ok0
    refine ⟨a0 :: es, by simp [h1], ?_, ?_⟩
    · rw [List.map_cons, row_one a0, List.append_assoc]
      exact List.Sublist.trans (List.Sublist.cons_cons _ h2) (List.sublist_append_right _ _)
    · intro i g a hgi hai
      cases i with
      | zero =>
        simp only [List.map_cons, List.getElem?_cons_zero, Option.some.injEq] at hgi hai
        subst hgi hai
        refine ⟨by simpa using World.var?_cell hg hvar 0, ?_⟩
        exact (hrows a0.block a0.off (by simp [MemPlace.row])).1
      | succ i =>
        simp only [List.map_cons, List.getElem?_cons_succ] at hgi hai
        exact h3 i g a hgi hai

theorem nodup_of_places {es : List Addr} {ps : List MemPlace} (h : ps.Nodup) (hs : List.Sublist (es.map fun a => MemPlace.cell a.block a.off) ps) : es.Nodup := by
  have h2 := List.Nodup.sublist hs h
  clear h hs
  induction es with
  | nil => exact List.nodup_nil
  | cons a es ih =>
    rw [List.map_cons, List.nodup_cons] at h2
    rw [List.nodup_cons]
    exact ⟨fun hm => h2.1 (List.mem_map_of_mem (f := fun a : Addr => MemPlace.cell a.block a.off) hm), ih h2.2⟩

theorem cellsES : Tryd.prog.cellsOf 151 = 1 := by kernel_rfl
theorem cellsStr : Tryd.prog.cellsOf 9 = 1 := by kernel_rfl
theorem star : "*" ++ "errors.errorString" = "*errors.errorString" := by decide
theorem rowES (u : TypeId) (h : Tryd.prog.typeName? 3 u = some "*errors.errorString") : u = 134 :=
  typeName_ptr_named (nm := "errors.errorString") (by rw [star]; kernel_rfl) (by kernel_rfl) (by decide) u (by rw [star]; exact h)

/-- What the row's list gives. -/
theorem errs_of_laid (L : List (String × DataW Unit × Nat)) {W : World} (hL : ∀ x ∈ L, Tryd.prog.globalNamed x.1 = some x.2.2 ∧ (Tryd.prog.globals[x.2.2]?).map (·.type) = some 36 ∧ ∃ t, x.2.1 = .iface "*errors.errorString" (.ptr (.agg [.lit (.string t)])))
    (h : laidMet Tryd.prog (L.map fun x => (x.1, x.2.1)) W) : ∃ es, Errs W (L.map fun x => x.2.2) es := by
  obtain ⟨ps, hv, hnd, hrows⟩ := h
  obtain ⟨es, h1, h2, h3⟩ := sents_of_laid Tryd.underlying36 rowES Tryd.underlying134 Tryd.underlying151 rfl rfl Tryd.underlying9 cellsES cellsStr L ps hL hv hrows
  exact ⟨es, by rw [h1, List.length_map], nodup_of_places hnd h2, h3⟩


/-- The errors by their numbers: 0 is none. -/
def erv (es : List Addr) : Nat → Value
  | 0 => .nilIface
  | k + 1 => .iface 134 (.pointer (some (es.getD k ⟨0, 0, none⟩)))


end Go.Proofs.YtmiapccngeafkaaDoor

/- ErrArg alone. -/
namespace Go.Proofs.YtmiapccngeafkaaDoor
open Go Go.RowKit

/-- ErrArg's cell holds an error. -/
def Arg (w : World) : Prop := ∃ a, w.cell? ⟨0, 0, none⟩ = some (.iface 134 (.pointer (some a)))
theorem Arg.below {w w' : World} (h : Arg w) (hb : Below w.heap.size w w') : Arg w' := by
  obtain ⟨a, h⟩ := h
  exact ⟨a, by rw [hb.cell (World.block_lt_of_cell? w _ h)]; exact h⟩
def L1 : List (String × DataW Unit × Nat) := [("tableau/api.ErrArg", Rows.laid_tableau_api_ErrArg, 0)]
theorem arg_of {W : World} (h : laidMetH Tryd.prog (L1.map fun x => (x.1, x.2.1)) W) : Arg W := by
  rw [MakeChecks.laidMetH_plain _ _ _ (by kernel_rfl)] at h
  obtain ⟨es, he⟩ := errs_of_laid L1 (fun x hx => by
    obtain rfl : x = ("tableau/api.ErrArg", Rows.laid_tableau_api_ErrArg, 0) := by simpa only [L1, List.mem_cons, List.not_mem_nil, or_false] using hx
    exact ⟨by kernel_rfl, by kernel_rfl, _, rfl⟩) h
  match es, he with
  | [a], he => exact ⟨a, (he.each 0 _ a rfl rfl).1⟩
  | [], he => cases he.len
  | _ :: _ :: _, he => cases he.len
end Go.Proofs.YtmiapccngeafkaaDoor

/- Colours as numbers: their parts, joined, a share, one over the other (no program). -/
namespace Go.Proofs.YtmiapccngeafkaaDoor
open Go Go.RowKit

/-- What a part may be, the nearest. -/
def ct (n : Int) : Int := min (max n 0) 255
/-- Eight bits of a colour, 0 the lowest. -/
def pt0 (u : Int) : Int := u % 256
def pt1 (u : Int) : Int := u / 256 % 256
def pt2 (u : Int) : Int := u / 65536 % 256
def pt3 (u : Int) : Int := u / 16777216 % 256
/-- The colour of parts. -/
def jn (a r g b : Int) : Int := ((ct a * 256 + ct r) * 256 + ct g) * 256 + ct b
/-- A share of a part. -/
def scl (x y : Int) : Int := (ct x * ct y + 127) / 255
/-- A colour over another one. -/
def ovr (u o : Int) : Int := jn (pt3 o + scl (pt3 u) (255 - pt3 o)) (pt2 o + scl (pt2 u) (255 - pt3 o)) (pt1 o + scl (pt1 u) (255 - pt3 o)) (pt0 o + scl (pt0 u) (255 - pt3 o))
/-- The colour of a number of a format. -/
def lod (u f : Int) : Int := if f = 0 then u else if f = 1 then jn 255 (pt2 u) (pt1 u) (pt0 u) else 0
/-- A colour. -/
def Col (u : Int) : Prop := 0 ≤ u ∧ u < 4294967296

theorem ct_bd (n : Int) : 0 ≤ ct n ∧ ct n ≤ 255 := by unfold ct; omega
theorem ct_id {n : Int} (h : 0 ≤ n ∧ n ≤ 255) : ct n = n := by unfold ct; omega
theorem pt0_bd (u : Int) : 0 ≤ pt0 u ∧ pt0 u ≤ 255 := by unfold pt0; omega
theorem pt1_bd (u : Int) : 0 ≤ pt1 u ∧ pt1 u ≤ 255 := by unfold pt1; omega
theorem pt2_bd (u : Int) : 0 ≤ pt2 u ∧ pt2 u ≤ 255 := by unfold pt2; omega
theorem pt3_bd (u : Int) : 0 ≤ pt3 u ∧ pt3 u ≤ 255 := by unfold pt3; omega
theorem jn_bd (a r g b : Int) : Col (jn a r g b) := by
  have := ct_bd a; have := ct_bd r; have := ct_bd g; have := ct_bd b
  unfold Col jn; omega
theorem prod_bd {x y : Int} (hx : 0 ≤ x ∧ x ≤ 255) (hy : 0 ≤ y ∧ y ≤ 255) : 0 ≤ x * y ∧ x * y ≤ 65025 := by
  refine ⟨Int.mul_nonneg hx.1 hy.1, ?_⟩
  have := Int.mul_le_mul hx.2 hy.2 hy.1 (by omega : (0 : Int) ≤ 255)
  omega
theorem scl_bd (x y : Int) : 0 ≤ scl x y ∧ scl x y ≤ 255 := by
  have := prod_bd (ct_bd x) (ct_bd y)
  unfold scl; omega
theorem ovr_bd (u o : Int) : Col (ovr u o) := jn_bd _ _ _ _

/-- The parts of what is joined. -/
theorem pt3_jn (a r g b : Int) : pt3 (jn a r g b) = ct a := by
  have := ct_bd a; have := ct_bd r; have := ct_bd g; have := ct_bd b
  unfold pt3 jn; omega
theorem pt2_jn (a r g b : Int) : pt2 (jn a r g b) = ct r := by
  have := ct_bd a; have := ct_bd r; have := ct_bd g; have := ct_bd b
  unfold pt2 jn; omega
theorem pt1_jn (a r g b : Int) : pt1 (jn a r g b) = ct g := by
  have := ct_bd a; have := ct_bd r; have := ct_bd g; have := ct_bd b
  unfold pt1 jn; omega
theorem pt0_jn (a r g b : Int) : pt0 (jn a r g b) = ct b := by
  have := ct_bd a; have := ct_bd r; have := ct_bd g; have := ct_bd b
  unfold pt0 jn; omega
theorem jn_ct (a r g b : Int) : jn (ct a) (ct r) (ct g) (ct b) = jn a r g b := by
  unfold jn; rw [ct_id (ct_bd a), ct_id (ct_bd r), ct_id (ct_bd g), ct_id (ct_bd b)]
/-- What is joined of a colour's parts is it. -/
theorem jn_pts {u : Int} (h : Col u) : jn (pt3 u) (pt2 u) (pt1 u) (pt0 u) = u := by
  unfold jn
  rw [ct_id (pt3_bd u), ct_id (pt2_bd u), ct_id (pt1_bd u), ct_id (pt0_bd u)]
  unfold pt3 pt2 pt1 pt0
  obtain ⟨h1, h2⟩ := h
  omega

theorem scl_full (x : Int) : scl x 255 = ct x := by
  have := ct_bd x
  unfold scl; rw [ct_id (n := 255) (by omega)]; omega
theorem scl_none (x : Int) : scl x 0 = 0 := by
  unfold scl; rw [ct_id (n := 0) (by omega)]; omega
theorem scl_zero (y : Int) : scl 0 y = 0 := by
  unfold scl; rw [ct_id (n := 0) (by omega)]; omega
theorem scl_swap (x y : Int) : scl x y = scl y x := by unfold scl; rw [Int.mul_comm]
theorem ct_mono {x y : Int} (h : x ≤ y) : ct x ≤ ct y := by unfold ct; omega
theorem scl_mono {x y z : Int} (h : y ≤ z) : scl x y ≤ scl x z := by
  have := Int.mul_le_mul_of_nonneg_left (ct_mono h) (ct_bd x).1
  unfold scl; omega
theorem scl_monoL {x y z : Int} (h : x ≤ y) : scl x z ≤ scl y z := by rw [scl_swap x, scl_swap y]; exact scl_mono h
theorem scl_near {x y : Int} (hx : 0 ≤ x ∧ x ≤ 255) (hy : 0 ≤ y ∧ y ≤ 255) : -127 ≤ 255 * scl x y - x * y ∧ 255 * scl x y - x * y ≤ 127 := by
  have := prod_bd hx hy
  unfold scl; rw [ct_id hx, ct_id hy]; omega

/-- What has a 255 is what is seen. -/
theorem ovr_full {u o : Int} (ho : Col o) (h : pt3 o = 255) : ovr u o = o := by
  unfold ovr
  rw [h, show (255 : Int) - 255 = 0 from rfl, scl_none, scl_none, scl_none, scl_none, ← h, Int.add_zero, Int.add_zero, Int.add_zero, Int.add_zero]
  exact jn_pts ho
theorem ovr_none {u : Int} (hu : Col u) : ovr u 0 = u := by
  unfold ovr
  have e3 : pt3 0 = 0 := by decide
  have e2 : pt2 0 = 0 := by decide
  have e1 : pt1 0 = 0 := by decide
  have e0 : pt0 0 = 0 := by decide
  rw [e3, e2, e1, e0, show (255 : Int) - 0 = 255 from rfl, scl_full, scl_full, scl_full, scl_full, Int.zero_add, Int.zero_add, Int.zero_add, Int.zero_add, jn_ct]
  exact jn_pts hu
theorem ovr_zero {o : Int} (ho : Col o) : ovr 0 o = o := by
  unfold ovr
  have e3 : pt3 0 = 0 := by decide
  have e2 : pt2 0 = 0 := by decide
  have e1 : pt1 0 = 0 := by decide
  have e0 : pt0 0 = 0 := by decide
  rw [e3, e2, e1, e0, scl_zero, Int.add_zero, Int.add_zero, Int.add_zero, Int.add_zero]
  exact jn_pts ho
theorem ovr_opaque {u o : Int} (h : pt3 u = 255) : pt3 (ovr u o) = 255 := by
  unfold ovr
  have := pt3_bd o
  rw [pt3_jn, h, scl_swap, scl_full, ct_id (n := 255 - pt3 o) (by omega)]
  unfold ct; omega
theorem ovr_ex : ovr 4278190335 2155872256 = 4286578815 := by decide
theorem jn_ex : jn 1 2 3 4 = 16909060 := by decide

/-- A colour with a 255. -/
def ful (u : Int) : Int := u % 16777216 + 4278190080
theorem ful_col (u : Int) : Col (ful u) := by unfold Col ful; omega
theorem ful_pt (u : Int) : pt3 (ful u) = 255 := by unfold pt3 ful; omega
theorem ful_jn (u : Int) : jn 255 (pt2 u) (pt1 u) (pt0 u) = ful u := by
  unfold jn
  rw [ct_id (n := 255) (by omega), ct_id (pt2_bd u), ct_id (pt1_bd u), ct_id (pt0_bd u)]
  unfold pt2 pt1 pt0 ful; omega
theorem wraps_u32 (n : Int) (h₀ : 0 ≤ n) (h₁ : n < 2 ^ 32) : IntKind.u32.wrap n = n := by rw [IntKind.wrap_u32]; omega
theorem or8 {x y : Int} (hx : 0 ≤ x ∧ x < 16777216) (hy : 0 ≤ y ∧ y ≤ 255) : bits .or .u32 (x * 256) y = x * 256 + y :=
  bits_join .u32 32 (by decide) wraps_u32 8 (x * 256) y (by omega) (by omega) (by omega) hy.1 (by omega) (by omega)
theorem orj {x y : Int} (hx : 0 ≤ x ∧ x < 16777216) (hy : 0 ≤ y ∧ y ≤ 255) : bits .or .u32 (x * 256 % 4294967296) y = x * 256 + y := by
  rw [show x * 256 % 4294967296 = x * 256 from by omega]
  exact or8 hx hy
theorem or0 {y : Int} (hy : 0 ≤ y ∧ y ≤ 255) : bits .or .u32 0 y = y := by
  have := or8 (x := 0) (by omega) hy
  rw [Int.zero_mul, Int.zero_add] at this
  exact this
theorem or_ful {u : Int} (h : Col u) : bits .or .u32 u 4278190080 = ful u := by
  obtain ⟨h0, h1⟩ := h
  obtain ⟨n, rfl⟩ := Int.eq_ofNat_of_zero_le h0
  have hn : n < 2 ^ 32 := by omega
  have e := (bits_nat .u32 32 (by decide) wraps_u32 n 4278190080 hn (by decide)).2
  have e2 : ((4278190080 : Nat) : Int) = 4278190080 := rfl
  rw [e2] at e
  rw [e]
  have e3 : n ||| 4278190080 = n % 16777216 + 4278190080 := by
    have q : (4278190080 : Nat) = 2 ^ 24 * 255 := by decide
    have q2 : n % 2 ^ 24 < 2 ^ 24 := Nat.mod_lt _ (by decide)
    have q1 := Nat.two_pow_add_eq_or_of_lt q2 255
    have q3 : n ||| 2 ^ 24 * 255 = 2 ^ 24 * 255 ||| n % 2 ^ 24 := by
      apply Nat.eq_of_testBit_eq
      intro i
      rw [Nat.testBit_or, Nat.testBit_or, Nat.testBit_mod_two_pow, Nat.testBit_two_pow_mul]
      by_cases hi : i < 24
      · have : ¬ 24 ≤ i := by omega
        simp [hi, this]
      · have h2 : 24 ≤ i := by omega
        by_cases hj : i < 32
        · have : Nat.testBit 255 (i - 24) = true := by
            have : i - 24 = 0 ∨ i - 24 = 1 ∨ i - 24 = 2 ∨ i - 24 = 3 ∨ i - 24 = 4 ∨ i - 24 = 5 ∨ i - 24 = 6 ∨ i - 24 = 7 := by omega
            rcases this with e | e | e | e | e | e | e | e <;> rw [e] <;> decide
          simp [h2, this]
        · have : n.testBit i = false := Nat.testBit_lt_two_pow (Nat.lt_of_lt_of_le hn (Nat.pow_le_pow_right (by decide) (by omega)))
          simp [hi, this]
    rw [q, q3, ← q1]
    omega
  rw [e3]
  unfold ful
  omega
end Go.Proofs.YtmiapccngeafkaaDoor

/- The contracts of the program's canvas, I: New, Size, area, row, At, Pixels, Copy. -/
namespace Go.Proofs.YtmiapccngeafkaaDoor
open Go Go.RowKit

def e32 (z : Int) : Value := .int .u32 z

/-- A canvas of W and H at p (a struct of the type ty), its points at b: they are L. -/
structure Cv (ty : Nat) (w : World) (p b W H : Nat) (L : List Int) : Prop where
  ne : p ≠ b
  var : w.heap[p]? = some (.cells #[.int .i64 (W : Nat), .int .i64 (H : Nat), .slice (some ⟨b, 0, none⟩) (W * H) (W * H)] ty (0, 0))
  row : w.ownsRow 0 22 1 (.slice (some ⟨b, 0, none⟩) (W * H) (W * H)) (W * H) (L.map e32)
  col : ∀ z ∈ L, Col z
  hW : 1 ≤ W ∧ W ≤ 48
  hH : 1 ≤ H ∧ H ≤ 48

variable {ty : Nat} {w w' : World} {p b W H : Nat} {L : List Int}

theorem Cv.len (h : Cv ty w p b W H L) : L.length = W * H := by
  have := h.row.1
  rw [List.length_map, Nat.mul_one] at this
  exact this
theorem Cv.small (h : Cv ty w p b W H L) : W * H ≤ 2304 := Nat.mul_le_mul h.hW.2 h.hH.2
theorem Cv.pos (h : Cv ty w p b W H L) : 1 ≤ W * H := Nat.mul_le_mul h.hW.1 h.hH.1
theorem Cv.lt (h : Cv ty w p b W H L) : p < w.heap.size ∧ b < w.heap.size :=
  ⟨(Array.getElem?_eq_some_iff.1 h.var).1, (h.row.lt b rfl).2⟩
theorem Cv.kept {X : List Nat} (h : Cv ty w p b W H L) (hk : Kp X w w') (hp : p ∉ X) (hb : b ∉ X) : Cv ty w' p b W H L :=
  ⟨h.ne, hk.var h.var hp, hk.row h.row (fun k e => by
    simp only [Value.ownBlock, Option.some.injEq] at e
    rw [← e]
    exact hb), h.col, h.hW, h.hH⟩
theorem Cv.on (h : Cv ty w p b W H L) (hb : Below w.heap.size w w') : Cv ty w' p b W H L := h.kept (kp_of_below hb []) (by simp) (by simp)
theorem Cv.c0 (h : Cv ty w p b W H L) : w.cell? ⟨p, 0, none⟩ = some (.int .i64 (W : Nat)) := by rw [Lib.cell_of_heap h.var]; rfl
theorem Cv.c1 (h : Cv ty w p b W H L) : w.cell? ⟨p, 1, none⟩ = some (.int .i64 (H : Nat)) := by rw [Lib.cell_of_heap h.var]; rfl
theorem Cv.c2 (h : Cv ty w p b W H L) : w.cell? ⟨p, 2, none⟩ = some (.slice (some ⟨b, 0, none⟩) (W * H) (W * H)) := by rw [Lib.cell_of_heap h.var]; rfl
theorem Cv.cell (h : Cv ty w p b W H L) {i : Nat} {z : Int} (hz : L[i]? = some z) : w.cell? ⟨b, i, none⟩ = some (.int .u32 z) := by
  have hi := (List.getElem?_eq_some_iff.1 hz).1
  rw [h.row.cellAt i (by rw [Nat.mul_one, ← h.len]; exact hi), List.getElem?_map, hz]
  rfl
theorem Cv.fz (h : Cv ty w p b W H L) (i : Nat) : w.frozen? ⟨b, i, none⟩ = false := h.row.frozenAt i
theorem Cv.set (h : Cv ty w p b W H L) (i : Nat) {z : Int} (hz : Col z) : Cv ty (w.setCell ⟨b, i, none⟩ (.int .u32 z)) p b W H (L.set i z) := by
  have hr := (h.row.stored i (.int .u32 z)).1
  rw [show Value.int .u32 z = e32 z from rfl, ← List.map_set] at hr
  exact ⟨h.ne, by rw [heap_setCell_other _ _ _ _ h.ne]; exact h.var, hr, fun y hy => by
    rcases List.mem_or_eq_of_mem_set hy with h' | h'
    · exact h.col y h'
    · rw [h']; exact hz, h.hW, h.hH⟩
theorem Cv.at_ (h : Cv ty w p b W H L) {x y : Nat} (hx : x < W) (hy : y < H) : ∃ z, L[y * W + x]? = some z ∧ Col z := by
  have hl : y * W + x < L.length := by rw [h.len]; exact place_lt hx hy
  exact ⟨_, List.getElem?_eq_getElem hl, h.col _ (List.getElem_mem hl)⟩

theorem info32 : (Tryd.prog.info? 22).map (fun i => (i.zero, i.size, i.bytes)) = some (some (.int .u32 0), 1, 4) := by kernel_rfl
theorem info32p : ∃ i, Tryd.prog.info? 22 = some i ∧ i.zero = some (.int .u32 0) ∧ i.size = 1 ∧ i.bytes = 4 := by
  obtain ⟨i, h1, h2⟩ := Option.map_eq_some_iff.1 info32
  simp only [Prod.mk.injEq] at h2
  exact ⟨i, h1, h2.1, h2.2.1, h2.2.2⟩
theorem size32 : (Tryd.prog.info? 22).map (·.size) = some 1 := by
  obtain ⟨i, hi, _, h1, _⟩ := info32p
  rw [hi]
  exact congrArg some h1

/-- 'make([]uint32, n)': n noughts, in a block of its own. -/
theorem make32 (w : World) (n : Nat) (hn : n ≤ 2304) : ∃ w1, (Instr.makeSlice 25 (.int .i64 (n : Int)) (.int .i64 (n : Int))).run Tryd.prog w = .ok (.slice (some ⟨w.heap.size, 0, none⟩) n n) w1 ∧ Below w.heap.size w w1 ∧ w1.ownsRow w.heap.size 22 1 (.slice (some ⟨w.heap.size, 0, none⟩) n n) n ((List.replicate n 0).map e32) := by
  obtain ⟨i0, hi, hz0, hz1, hz2⟩ := info32p
  obtain ⟨w1, hmk, ho1, hg1⟩ := run_make_full (P := Tryd.prog) w w.heap.size 25 22 i0 (.int .u32 0) 1 Tryd.underlying25 hi hz0 hz1 .i64 .i64 n (by rw [hz2]; omega) (by simp only [maxLen]; omega) (Nat.le_refl _)
  refine ⟨w1, hmk, (Below.refl _ _).grown hg1 (Nat.le_refl _) (fun k hk => by cases hk), ?_⟩
  have e : (madeCells (Value.int .u32 0).cells (n * 1)).toList = (List.replicate n 0).map e32 := by
    rw [Nat.mul_one, List.map_replicate]
    exact toList_madeCells_one _ n
  rwa [e] at ho1

/-- The struct laid behind its points. -/
theorem cv_new {base : Nat} {u : World} {g : Nat} (ty : Nat) (hr : u.ownsRow base 22 1 (.slice (some ⟨g, 0, none⟩) (W * H) (W * H)) (W * H) (L.map e32)) (hc : ∀ z ∈ L, Col z) (hW : 1 ≤ W ∧ W ≤ 48) (hH : 1 ≤ H ∧ H ≤ 48) :
    Cv ty (u.alloc (.cells #[.int .i64 (W : Nat), .int .i64 (H : Nat), .slice (some ⟨g, 0, none⟩) (W * H) (W * H)] ty)) u.heap.size g W H L := by
  have hg := (hr.lt g rfl).2
  refine ⟨by omega, heap_alloc_new u _, ?_, hc, hW, hH⟩
  exact ownsRow_below (ownsRow_low hr (Nat.zero_le _)) ((Below.refl _ _).alloc (Nat.le_refl _) _)

theorem between_any (l n h : Int) (w : World) : Calls Tryd.prog 17 #[.int .i64 l, .int .i64 n, .int .i64 h] w fun e w' => e = .returned (.bool (decide (l ≤ n) && decide (n ≤ h))) ∧ w' = w := by
  go_enter Tryd.func17, Tryd.ntmps17
  cases h1 : decide (l ≤ n) <;> cases h2 : decide (n ≤ h)
  all_goals
    go_wp2
    go_ret
    exact ⟨rfl, rfl⟩

/-- Whether a side may be. -/
def side (n : Int) : Bool := decide (1 ≤ n) && decide (n ≤ 48)

/-- What New, Copy hand back: a canvas of the call's own. -/
def Own (ty : Nat) (w : World) (W H : Nat) (L : List Int) (f : Value → Value) (e : Ending) (w' : World) : Prop :=
  ∃ p b, e = .returned (f (.pointer (some ⟨p, 0, none⟩))) ∧ Below w.heap.size w w' ∧ Cv ty w' p b W H L ∧ w.heap.size ≤ p ∧ w.heap.size ≤ b

set_option maxRecDepth 100000 in
/-- New, where the sides may be. -/
theorem cnew_any (w : World) (W H : Nat) (hW : 1 ≤ W ∧ W ≤ 48) (hH : 1 ≤ H ∧ H ≤ 48) :
    Calls Tryd.prog 8 #[.int .i64 (W : Nat), .int .i64 (H : Nat)] w (Own 56 w W H (List.replicate (W * H) 0) fun v => .tuple #[v, .nilIface]) := by
  obtain ⟨n, hn⟩ : ∃ n, W * H = n := ⟨_, rfl⟩
  have hs : n ≤ 2304 := by rw [← hn]; exact Nat.mul_le_mul hW.2 hH.2
  have m1 : (W : Int) * (H : Int) = (n : Int) := by rw [← hn, Int.natCast_mul]
  have CW := hid (between_any 1 W 48 w)
  have CH := hid (between_any 1 H 48 w)
  rw [show (decide ((1 : Int) ≤ W) && decide ((W : Int) ≤ 48)) = true by simp; omega] at CW
  rw [show (decide ((1 : Int) ≤ H) && decide ((H : Int) ≤ 48)) = true by simp; omega] at CH
  obtain ⟨w1, hmk, hb1, ho1⟩ := make32 w n hs
  have hs1 := hb1.size
  have HN := hid hn
  have HB := hid hb1
  have HO := hid ho1
  clear hn hb1 ho1
  go_enter Tryd.func8, Tryd.ntmps8
  go_wp2_with fail
  refine CW.out.mono ?_
  rintro e w2 ⟨rfl, rfl⟩
  go_wp2_with fail
  refine CH.out.mono ?_
  rintro e w2 ⟨rfl, rfl⟩
  go_wp2
  go_ret2
  subst HN
  exact ⟨_, _, rfl, HB.out.alloc hs1 _, cv_new 56 HO.out (fun z hz => by rw [List.eq_of_mem_replicate hz, Col]; decide) hW hH, hs1, Nat.le_refl _⟩

set_option maxRecDepth 100000 in
/-- New, where one of them may not. -/
theorem cnew_no (w : World) (m n : Int) (hE : Arg w) (h : (side m && side n) = false) :
    Calls Tryd.prog 8 #[.int .i64 m, .int .i64 n] w fun e w' => (∃ a, e = .returned (.tuple #[.pointer none, .iface 134 (.pointer (some a))])) ∧ Below w.heap.size w w' := by
  obtain ⟨a, ha⟩ := hE
  have CW := hid (between_any 1 m 48 w)
  have CH := hid (between_any 1 n 48 w)
  rw [show (decide ((1 : Int) ≤ m) && decide (m ≤ 48)) = side m from rfl] at CW
  rw [show (decide ((1 : Int) ≤ n) && decide (n ≤ 48)) = side n from rfl] at CH
  go_enter Tryd.func8, Tryd.ntmps8
  cases hm : side m
  · rw [hm] at CW
    clear h CH
    go_wp2_with fail
    refine CW.out.mono ?_
    rintro e w2 ⟨rfl, rfl⟩
    go_wp2
    go_quiet (fail)
    go_wp2
    go_ret2
    exact ⟨⟨_, rfl⟩, below_drewN (Below.refl _ _) _⟩
  · rw [hm, Bool.true_and] at h
    rw [hm] at CW
    rw [h] at CH
    go_wp2_with fail
    refine CW.out.mono ?_
    rintro e w2 ⟨rfl, rfl⟩
    go_wp2_with fail
    refine CH.out.mono ?_
    rintro e w2 ⟨rfl, rfl⟩
    go_wp2
    go_quiet (fail)
    go_wp2
    go_ret2
    exact ⟨⟨_, rfl⟩, below_drewN (Below.refl _ _) _⟩

set_option maxRecDepth 100000 in
theorem csize_any (h : Cv 56 w p b W H L) : Calls Tryd.prog 18 #[.pointer (some ⟨p, 0, none⟩)] w fun e w' => e = .returned (.tuple #[.int .i64 (W : Nat), .int .i64 (H : Nat)]) ∧ Below w.heap.size w w' := by
  have c0 := h.c0
  have c1 := h.c1
  have l0 := h.lt.1
  clear h
  go_enter Tryd.func18, Tryd.ntmps18
  go_wp2
  go_quiet (fail)
  go_wp2
  go_ret2
  exact ⟨rfl, below_drewN (Below.refl _ _) _⟩

/-- The rectangle of all points. -/
def ara (W H : Nat) : Rc := ⟨0, 0, W, H⟩

set_option maxRecDepth 100000 in
set_option maxHeartbeats 4000000 in
theorem carea_any (h : Cv 56 w p b W H L) : Calls Tryd.prog 33 #[.pointer (some ⟨p, 0, none⟩)] w fun e w' => e = .returned (.agg #[.int .i64 0, .int .i64 0, .int .i64 (W : Nat), .int .i64 (H : Nat)]) ∧ Below w.heap.size w w' := by
  have l0 := h.lt.1
  have c0 := h.c0
  have c1 := h.c1
  have HB := hid (bx_new w rz)
  obtain ⟨d0, d1, d2, d3⟩ := HB.out.all
  have fz := HB.out.fz
  clear h HB
  go_enter Tryd.func33, Tryd.ntmps33
  go_wp2
  refine wp_region_held_drew (S := fun x => x.cell? ⟨p, 0, none⟩ = some (.int .i64 (W : Nat)) ∧ x.cell? ⟨p, 1, none⟩ = some (.int .i64 (H : Nat))) (by kernel_rfl) ?hh (fun hHeld => ?_)
  case hh => exact (⟨by go_simp, by go_simp⟩)
  refine wpAnyH_take (i := 0) (v := ?_) rfl (by kernel_rfl) (by kernel_rfl) (by kernel_rfl) (fun _ _ _ h => h) (Or.inl ⟨by kernel_rfl, ?hy0⟩) (by assumption) ?_
  case hy0 => (intro w hSw; (try dsimp only at hSw); obtain ⟨t0, t1⟩ := hSw; go_simp; try with_reducible rfl)
  try simp only [Act.put, List.getElem_toArray, List.getElem_cons_zero, List.setIfInBounds_toArray, List.set_cons_zero, List.set_cons_succ]
  refine wpAnyH_take (i := 1) (v := ?_) rfl (by kernel_rfl) (by kernel_rfl) (by kernel_rfl) (fun _ _ _ h => h) (Or.inl ⟨by kernel_rfl, ?hy1⟩) (by assumption) ?_
  case hy1 => (intro w hSw; (try dsimp only at hSw); obtain ⟨t0, t1⟩ := hSw; go_simp; try with_reducible rfl)
  try simp only [Act.put, List.getElem_toArray, List.getElem_cons_zero, List.getElem_cons_succ, List.setIfInBounds_toArray, List.set_cons_zero, List.set_cons_succ]
  refine wpAnyH_take (i := 2) (v := ?_) rfl (by kernel_rfl) (by kernel_rfl) (by kernel_rfl) (fun _ _ _ h => h) (Or.inl ⟨by kernel_rfl, ?hy2⟩) (by assumption) ?_
  case hy2 => (intro w hSw; (try dsimp only at hSw); obtain ⟨t0, t1⟩ := hSw; go_simp; try with_reducible rfl)
  try simp only [Act.put, List.getElem_toArray, List.getElem_cons_zero, List.getElem_cons_succ, List.setIfInBounds_toArray, List.set_cons_zero, List.set_cons_succ]
  refine wpAnyH_take (i := 3) (v := ?_) rfl (by kernel_rfl) (by kernel_rfl) (by kernel_rfl) (fun _ _ _ h => h) (Or.inl ⟨by kernel_rfl, ?hy3⟩) (by assumption) ?_
  case hy3 => (intro w hSw; (try dsimp only at hSw); obtain ⟨t0, t1⟩ := hSw; go_simp; try with_reducible rfl)
  try simp only [Act.put, List.getElem_toArray, List.getElem_cons_zero, List.getElem_cons_succ, List.setIfInBounds_toArray, List.set_cons_zero, List.set_cons_succ]
  refine wpAnyH_take (i := 4) (v := ?_) rfl (by kernel_rfl) (by kernel_rfl) (by kernel_rfl) (fun _ _ _ h => h) (Or.inl ⟨by kernel_rfl, ?hy4⟩) (by assumption) ?_
  case hy4 => (intro w hSw; (try dsimp only at hSw); obtain ⟨t0, t1⟩ := hSw; go_simp; try with_reducible rfl)
  try simp only [Act.put, List.getElem_toArray, List.getElem_cons_zero, List.getElem_cons_succ, List.setIfInBounds_toArray, List.set_cons_zero, List.set_cons_succ]
  refine wpAnyH_take (i := 5) (v := ?_) rfl (by kernel_rfl) (by kernel_rfl) (by kernel_rfl) (fun _ _ _ h => h) (Or.inl ⟨by kernel_rfl, ?hy5⟩) (by assumption) ?_
  case hy5 => (intro w hSw; (try dsimp only at hSw); obtain ⟨t0, t1⟩ := hSw; go_simp; try with_reducible rfl)
  try simp only [Act.put, List.getElem_toArray, List.getElem_cons_zero, List.getElem_cons_succ, List.setIfInBounds_toArray, List.set_cons_zero, List.set_cons_succ]
  refine wpAnyH_take (i := 6) (v := ?_) rfl (by kernel_rfl) (by kernel_rfl) (by kernel_rfl) (fun _ _ _ h => h) (Or.inl ⟨by kernel_rfl, ?hy6⟩) (by assumption) ?_
  case hy6 => (intro w hSw; (try dsimp only at hSw); obtain ⟨t0, t1⟩ := hSw; go_simp; try with_reducible rfl)
  try simp only [Act.put, List.getElem_toArray, List.getElem_cons_zero, List.getElem_cons_succ, List.setIfInBounds_toArray, List.set_cons_zero, List.set_cons_succ]
  refine wpAnyH_take (i := 7) (v := ?_) rfl (by kernel_rfl) (by kernel_rfl) (by kernel_rfl) (fun _ _ _ h => h) (Or.inl ⟨by kernel_rfl, ?hy7⟩) (by assumption) ?_
  case hy7 => (intro w hSw; (try dsimp only at hSw); obtain ⟨t0, t1⟩ := hSw; go_simp; try with_reducible rfl)
  try simp only [Act.put, List.getElem_toArray, List.getElem_cons_zero, List.getElem_cons_succ, List.setIfInBounds_toArray, List.set_cons_zero, List.set_cons_succ]
  refine wpAnyH_take (i := 8) (v := ?_) rfl (by kernel_rfl) (by kernel_rfl) (by kernel_rfl) (fun _ _ _ h => h) (Or.inl ⟨by kernel_rfl, ?hy8⟩) (by assumption) ?_
  case hy8 => (intro w hSw; (try dsimp only at hSw); obtain ⟨t0, t1⟩ := hSw; go_simp; try with_reducible rfl)
  try simp only [Act.put, List.getElem_toArray, List.getElem_cons_zero, List.getElem_cons_succ, List.setIfInBounds_toArray, List.set_cons_zero, List.set_cons_succ]
  refine wpAnyH_ready (rs := [9]) (by kernel_rfl) (by simp) ?_
  refine AllReadyH.cons rfl (fun K hK => ?_) AllReadyH.nil
  go_simp
  refine hK.out _ _ ⟨by go_simp, by go_simp⟩ (fun _ => ?_)
  clear hK K hHeld
  refine wpAnyH_done (by kernel_rfl) ?_ _
  go_wp2
  refine bodyPost_ret (results_cell_row rfl _ _ w.heap.size _ _ _ _ rfl (bx_new w (ara W H)).drew.obj Tryd.underlying24 rfl infoR) rfl ?_
  exact ⟨rfl, (below_new w (ob (ara W H))).drew⟩

set_option maxRecDepth 100000 in
theorem row_any (h : Cv 56 w p b W H L) (y : Nat) (hy : y < H) : Calls Tryd.prog 48 #[.pointer (some ⟨p, 0, none⟩), .int .i64 (y : Nat)] w fun e w' => e = .returned (.slice (some ⟨b, y * W, none⟩) W W) ∧ ∃ q, w' = w.drewN q := by
  obtain ⟨n, hn⟩ : ∃ n, W * H = n := ⟨_, rfl⟩
  obtain ⟨f, hf⟩ : ∃ f, y * W = f := ⟨_, rfl⟩
  have hfn : f + W ≤ n := by
    have : (y + 1) * W ≤ H * W := Nat.mul_le_mul_right W hy
    rw [Nat.add_mul, Nat.one_mul, hf, Nat.mul_comm H W, hn] at this
    exact this
  have m1 : (y : Int) * (W : Int) = (f : Int) := by rw [← hf, Int.natCast_mul]
  have m2 : ((y : Int) + 1) * (W : Int) = ((f + W : Nat) : Int) := by rw [Int.add_mul, Int.one_mul, m1]; omega
  have hs := h.small
  rw [hn] at hs
  have c0 := h.c0
  have c2 := h.c2
  have l0 := h.lt.1
  have hW := h.hW
  have hH := h.hH
  rw [hn] at c2
  rw [hf]
  clear h hn hf
  go_enter Tryd.func48, Tryd.ntmps48
  go_wp2
  go_quiet (fail)
  go_wp2
  go_ret
  have e : f + W - f = W := by omega
  exact ⟨by simp only [e]; rfl, _, rfl⟩

theorem has_ara (hW : 1 ≤ W) (hH : 1 ≤ H) (x y : Int) : has (ara W H) x y = (decide (0 ≤ x) && decide (x < W) && (decide (0 ≤ y) && decide (y < H))) := by
  have e : emp (ara W H) = false := by
    rw [emp, Bool.or_eq_false_iff, decide_eq_false_iff_not, decide_eq_false_iff_not]
    simp only [ara]
    omega
  rw [has, e]
  simp only [wth, ara, Int.sub_zero, Bool.not_false, Bool.true_and]
  rfl

/-- The point (x, y), 0 of one that is none. -/
def atv (W H : Nat) (L : List Int) (x y : Int) : Int := if has (ara W H) x y then L.getD (y.toNat * W + x.toNat) 0 else 0

theorem ara_ok (h : Cv ty w p b W H L) : (ara W H).Ok := by
  have := h.hW
  have := h.hH
  exact ⟨by simp [ara], by simp [ara], by simp [ara]; omega, by simp [ara]; omega⟩


/-- 'copy' of points into a row of the call's own that is just as long. -/
theorem copy32 {base : Nat} (u : World) (g n : Nat) (M : List Int) (hO : u.ownsRow base 22 1 (.slice (some ⟨g, 0, none⟩) n n) n (M.map e32)) (x : Addr) (c : Nat) (L : List Int) (hl : L.length = n) (hc : ∀ j z, L[j]? = some z → u.cell? (x.add j) = some (.int .u32 z)) :
    ∃ U, (∀ ty : TypeId, (Builtin.copy_ #[25, 25] ty #[.slice (some ⟨g, 0, none⟩) n n, .slice (some x) n c]).run Tryd.prog u = .ok (goInt n) U) ∧ U.ownsRow base 22 1 (.slice (some ⟨g, 0, none⟩) n n) n (L.map e32) ∧ Kp [g] u U := by
  rcases hO.2 with ⟨e0, _⟩ | ⟨g', cap, cur, e0, hb, hg, hn, hm, hcs, ht⟩
  · cases e0
  · cases e0
    have hlen : (L.map e32).length = n := by rw [List.length_map, hl]
    have h1 : ∀ v ∈ L.map e32, v.oneCell' = true := fun v hv => by
      obtain ⟨z, _, rfl⟩ := List.mem_map.1 hv
      rfl
    have hrun : ∀ ty, (Builtin.copy_ #[25, 25] ty #[.slice (some ⟨g, 0, none⟩) n n, .slice (some x) n c]).run Tryd.prog u = _ := fun ty => run_copy_row (P := Tryd.prog) u 25 25 ty 22 g 0 n n x n c cur 22 (L.map e32) Tryd.underlying25 size32 hg (by rw [hlen]; exact (Nat.min_self n).symm) (fun j v hj => by
      rw [List.getElem?_map] at hj
      obtain ⟨z, hz, rfl⟩ := Option.map_eq_some_iff.1 hj
      exact hc j z hz) (by rw [hlen, hcs]; omega) h1
    rw [hlen] at hrun
    refine ⟨_, hrun, ⟨by rw [hlen, Nat.mul_one], .inr ⟨g, n, _, rfl, hb, setRow_heap u g cur _ 22 _ hg, Nat.le_refl _, hm, ?_, ?_⟩⟩, ⟨rfl, rfl, rfl, by simp, fun k _ hk => setRow_other u g k _ (fun e => hk (by simp [e]))⟩⟩
    · simp [hl, hcs]
    · simp [hl]

set_option maxRecDepth 100000 in
theorem pixels_any (h : Cv 56 w p b W H L) : Calls Tryd.prog 14 #[.pointer (some ⟨p, 0, none⟩)] w fun e w' => ∃ g, e = .returned (.slice (some ⟨g, 0, none⟩) (W * H) (W * H)) ∧ w.heap.size ≤ g ∧ w'.ownsRow w.heap.size 22 1 (.slice (some ⟨g, 0, none⟩) (W * H) (W * H)) (W * H) (L.map e32) ∧ Below w.heap.size w w' := by
  obtain ⟨n, hn⟩ : ∃ n, W * H = n := ⟨_, rfl⟩
  have hs := h.small
  have c2 := h.c2
  have hl := h.len
  rw [hn] at hs c2 hl
  have l0 := h.lt.1
  obtain ⟨w1, hmk, hb1, ho1⟩ := make32 w n hs
  have h1 := h.on hb1
  have c2' := h1.c2
  rw [hn] at c2'
  obtain ⟨U, hcp, ho2, hk2⟩ := copy32 w1 w.heap.size n _ ho1 ⟨b, 0, none⟩ n L hl (fun j z hz => by
    rw [Go.WideShapes.add_plain, Nat.zero_add]
    exact h1.cell hz)
  have HB := hid (hb1.trans (hk2.below hb1.size (by simp)))
  have HO := hid ho2
  have hs1 := hb1.size
  rw [hn]
  clear h hb1 ho1 h1 hk2 ho2 hn hl
  go_enter Tryd.func14, Tryd.ntmps14
  go_wp2
  go_ret
  exact ⟨_, rfl, Nat.le_refl _, HO.out, HB.out⟩

set_option maxRecDepth 100000 in
set_option maxHeartbeats 4000000 in
theorem ccopy_any (h : Cv 56 w p b W H L) : Calls Tryd.prog 10 #[.pointer (some ⟨p, 0, none⟩)] w (Own 56 w W H L fun v => v) := by
  have HC := hid h
  have c0 := h.c0
  have c1 := h.c1
  have l0 := h.lt.1
  clear h
  go_enter Tryd.func10, Tryd.ntmps10
  go_wp2
  refine wp_region_held_drew (S := fun x => Cv 56 x p b W H L) (by kernel_rfl) ?hh (fun hHeld => ?_)
  case hh => exact (HC.out.on (Below.refl _ _).drew)
  refine wpAnyH_take (i := 0) (v := ?_) rfl (by kernel_rfl) (by kernel_rfl) (by kernel_rfl) (fun _ _ _ h => h) (Or.inl ⟨by kernel_rfl, ?hy0⟩) (by assumption) ?_
  case hy0 => (intro w hSw; (try dsimp only at hSw); have t0 := hSw.c0; have t1 := hSw.c1; go_simp; try with_reducible rfl)
  try simp only [Act.put, List.getElem_toArray, List.getElem_cons_zero, List.setIfInBounds_toArray, List.set_cons_zero, List.set_cons_succ]
  refine wpAnyH_take (i := 1) (v := ?_) rfl (by kernel_rfl) (by kernel_rfl) (by kernel_rfl) (fun _ _ _ h => h) (Or.inl ⟨by kernel_rfl, ?hy1⟩) (by assumption) ?_
  case hy1 => (intro w hSw; (try dsimp only at hSw); have t0 := hSw.c0; have t1 := hSw.c1; go_simp; try with_reducible rfl)
  try simp only [Act.put, List.getElem_toArray, List.getElem_cons_zero, List.getElem_cons_succ, List.setIfInBounds_toArray, List.set_cons_zero, List.set_cons_succ]
  refine wpAnyH_take (i := 2) (v := ?_) rfl (by kernel_rfl) (by kernel_rfl) (by kernel_rfl) (fun _ _ _ h => h) (Or.inl ⟨by kernel_rfl, ?hy2⟩) (by assumption) ?_
  case hy2 => (intro w hSw; (try dsimp only at hSw); have t0 := hSw.c0; have t1 := hSw.c1; go_simp; try with_reducible rfl)
  try simp only [Act.put, List.getElem_toArray, List.getElem_cons_zero, List.getElem_cons_succ, List.setIfInBounds_toArray, List.set_cons_zero, List.set_cons_succ]
  refine wpAnyH_take (i := 3) (v := ?_) rfl (by kernel_rfl) (by kernel_rfl) (by kernel_rfl) (fun _ _ _ h => h) (Or.inl ⟨by kernel_rfl, ?hy3⟩) (by assumption) ?_
  case hy3 => (intro w hSw; (try dsimp only at hSw); have t0 := hSw.c0; have t1 := hSw.c1; go_simp; try with_reducible rfl)
  try simp only [Act.put, List.getElem_toArray, List.getElem_cons_zero, List.getElem_cons_succ, List.setIfInBounds_toArray, List.set_cons_zero, List.set_cons_succ]
  refine wpAnyH_take (i := 4) (v := ?_) rfl (by kernel_rfl) (by kernel_rfl) (by kernel_rfl) (fun _ _ _ h => h) (Or.inl ⟨by kernel_rfl, ?hy4⟩) (by assumption) ?_
  case hy4 => (intro w hSw; (try dsimp only at hSw); have t0 := hSw.c0; have t1 := hSw.c1; go_simp; try with_reducible rfl)
  try simp only [Act.put, List.getElem_toArray, List.getElem_cons_zero, List.getElem_cons_succ, List.setIfInBounds_toArray, List.set_cons_zero, List.set_cons_succ]
  refine wpAnyH_take (i := 5) (v := ?_) rfl (by kernel_rfl) (by kernel_rfl) (by kernel_rfl) (fun _ _ _ h => h) (Or.inl ⟨by kernel_rfl, ?hy5⟩) (by assumption) ?_
  case hy5 => (intro w hSw; (try dsimp only at hSw); have t0 := hSw.c0; have t1 := hSw.c1; go_simp; try with_reducible rfl)
  try simp only [Act.put, List.getElem_toArray, List.getElem_cons_zero, List.getElem_cons_succ, List.setIfInBounds_toArray, List.set_cons_zero, List.set_cons_succ]
  refine wpAnyH_take (i := 6) (v := ?_) rfl (by kernel_rfl) (by kernel_rfl) (by kernel_rfl) (fun _ _ _ h => h) (Or.inl ⟨by kernel_rfl, ?hy6⟩) (by assumption) ?_
  case hy6 => (intro w hSw; (try dsimp only at hSw); have t0 := hSw.c0; have t1 := hSw.c1; go_simp; try with_reducible rfl)
  try simp only [Act.put, List.getElem_toArray, List.getElem_cons_zero, List.getElem_cons_succ, List.setIfInBounds_toArray, List.set_cons_zero, List.set_cons_succ]
  refine wpAnyH_take (i := 7) (v := ?_) rfl (by kernel_rfl) (by kernel_rfl) (by kernel_rfl) (fun _ _ _ h => h) (Or.inl ⟨by kernel_rfl, ?hy7⟩) (by assumption) ?_
  case hy7 => (intro w hSw; (try dsimp only at hSw); have t0 := hSw.c0; have t1 := hSw.c1; go_simp; try with_reducible rfl)
  try simp only [Act.put, List.getElem_toArray, List.getElem_cons_zero, List.getElem_cons_succ, List.setIfInBounds_toArray, List.set_cons_zero, List.set_cons_succ]
  refine wpAnyH_take (i := 8) (v := ?_) rfl (by kernel_rfl) (by kernel_rfl) (by kernel_rfl) (fun _ _ _ h => h) (Or.inl ⟨by kernel_rfl, ?hy8⟩) (by assumption) ?_
  case hy8 => (intro w hSw; (try dsimp only at hSw); have t0 := hSw.c0; have t1 := hSw.c1; go_simp; try with_reducible rfl)
  try simp only [Act.put, List.getElem_toArray, List.getElem_cons_zero, List.getElem_cons_succ, List.setIfInBounds_toArray, List.set_cons_zero, List.set_cons_succ]
  refine wpAnyH_ready (rs := [9]) (by kernel_rfl) (by simp) ?_
  refine AllReadyH.cons rfl (fun K hK => ?_) AllReadyH.nil
  go_simp
  go_wp2_with fail
  refine (pixels_any hHeld).mono ?_
  rintro e u2 ⟨g, rfl, hg, hO, hb⟩
  refine hK.out _ _ (hHeld.on hb) (fun _ => ?_)
  have hHeld2 := hHeld.on hb
  have HO := hid hO
  have HB := hid (Below.on (Below.refl _ _).drew hb)
  clear hK K hHeld hO hb
  have hHeld := hHeld2
  clear hHeld2
  refine wpAnyH_take (i := 10) (v := ?_) rfl (by kernel_rfl) (by kernel_rfl) (by kernel_rfl) (fun _ _ _ h => h) (Or.inl ⟨by kernel_rfl, ?hy10⟩) (by assumption) ?_
  case hy10 => (intro w hSw; (try dsimp only at hSw); have t0 := hSw.c0; have t1 := hSw.c1; go_simp; try with_reducible rfl)
  try simp only [Act.put, List.getElem_toArray, List.getElem_cons_zero, List.getElem_cons_succ, List.setIfInBounds_toArray, List.set_cons_zero, List.set_cons_succ]
  refine wpAnyH_ready (rs := [11]) (by kernel_rfl) (by simp) ?_
  refine AllReadyH.cons rfl (fun K hK => ?_) AllReadyH.nil
  go_simp
  refine hK.out _ _ (hHeld.on ((Below.refl _ _).alloc (Nat.le_refl _) _)) (fun _ => ?_)
  clear hK K
  refine wpAnyH_take (i := 12) (v := ?_) rfl (by kernel_rfl) (by kernel_rfl) (by kernel_rfl) (fun _ _ _ h => h) (Or.inl ⟨by kernel_rfl, ?hy12⟩) (by assumption) ?_
  case hy12 => (intro w hSw; (try dsimp only at hSw); have t0 := hSw.c0; have t1 := hSw.c1; go_simp; try with_reducible rfl)
  try simp only [Act.put, List.getElem_toArray, List.getElem_cons_zero, List.getElem_cons_succ, List.setIfInBounds_toArray, List.set_cons_zero, List.set_cons_succ]
  refine wpAnyH_done (by kernel_rfl) ?_ _
  go_wp2
  go_ret
  exact ⟨_, _, rfl, HB.out.alloc HB.out.size _, cv_new 56 HO.out HC.out.col HC.out.hW HC.out.hH, HB.out.size, hg⟩
end Go.Proofs.YtmiapccngeafkaaDoor

/- The contract of the program's parts: rectangles with the points that are in r and in one of clip's. -/
namespace Go.Proofs.YtmiapccngeafkaaDoor
open Go Go.RowKit

/-- Whether a point is in one of clip's. -/
def inC (l : List Rc) (x y : Int) : Bool := l.any fun c => has (bnd c) x y
theorem inC_append (l m : List Rc) (x y : Int) : inC (l ++ m) x y = (inC l x y || inC m x y) := by simp [inC]

theorem may_bnd (c : Rc) : may (bnd c) = true := by
  rcases bnd_cases c with h | h
  · simp [may, h]
  · exact may_of (.inr h)
theorem may_cut {a b : Rc} (ha : may a = true) (hb : may b = true) : may (cut a b) = true := by
  cases he : emp (cut a b)
  · rcases may_cases ha with h1 | ka
    · rw [cut_emp1 h1] at he
      cases he
    · rcases may_cases hb with h2 | kb
      · rw [cut_emp2 a h2] at he
        cases he
      · exact may_of (.inr (cut_ck ka kb he))
  · simp [may, he]
theorem pt_ofl {q : Rc} (hq : may q = true) (x y : Int) : pt (ofl q) x y = has q x y := by
  unfold ofl
  split
  · rename_i h
    rw [pt_nil, ← has_bnd hq, has_emp h]
  · rw [pt_cons, pt_nil, Bool.or_false, has_bnd hq]
theorem gd_ofl (q : Rc) : Gd 2 (ofl q) := ⟨ofl_reg q, _, _, ofl_grid q, Nat.le_refl _, Nat.le_refl _⟩

/-- m is a region of the points that are in r and in one of l. -/
structure Prt (r : Rc) (l m : List Rc) : Prop where
  gd : Gd (2 * l.length) m
  pt : ∀ x y, pt m x y = (has r x y && inC l x y)

theorem prt_nil (r : Rc) : Prt r [] [] := ⟨⟨⟨fun _ h => (by cases h), List.Pairwise.nil, fun _ h => (by cases h)⟩, [], [], ⟨fun _ h => (by cases h)⟩, Nat.le_refl _, Nat.le_refl _⟩, fun x y => by simp [inC, Go.Proofs.YtmiapccngeafkaaDoor.pt]⟩
theorem prt_one {r : Rc} (hr : may r = true) (c : Rc) : Prt r [c] (ofl (cut (bnd c) r)) :=
  ⟨gd_ofl _, fun x y => by
    rw [pt_ofl (may_cut (may_bnd c) hr), has_cut (may_bnd c) hr, Bool.and_comm]
    simp [inC]⟩
theorem prt_two {r : Rc} {l l' m m' : List Rc} (h : Prt r l m) (h' : Prt r l' m') : Prt r (l ++ l') (mk or m m') :=
  ⟨by rw [List.length_append, Nat.mul_add]; exact gd_both h.gd h'.gd rfl, fun x y => by
    rw [mkp rfl h.gd.reg h'.gd.reg, h.pt, h'.pt, inC_append, Bool.and_or_distrib_left]⟩

theorem bnd_rz {c : Rc} (h : emp (bnd c) = true) : bnd c = rz := by
  cases he : emp c
  · rw [bnd_full he, oft] at h ⊢
    split at h
    · rename_i h'
      rw [if_pos h']
    · rename_i h'
      rw [emp, Bool.or_eq_true, decide_eq_true_eq, decide_eq_true_eq] at h
      dsimp only at h
      omega
  · exact bnd_emp he
theorem gd_few {a b : Nat} (ha : a ≤ 20) (hb : b ≤ 20) : 2 * a * (2 * a) + 2 * b * (2 * b) ≤ 4096 := by
  have h1 : 2 * a * (2 * a) ≤ 40 * 40 := Nat.mul_le_mul (by omega) (by omega)
  have h2 : 2 * b * (2 * b) ≤ 40 * 40 := Nat.mul_le_mul (by omega) (by omega)
  omega

theorem thn {P : Program} {f : Nat} {args : Array Value} {x W : World} {v : Ending} (h : Calls P f args x fun e w' => e = v ∧ Below x.heap.size x w') (hb : Below W.heap.size W x) : Calls P f args x fun e w' => e = v ∧ Below W.heap.size W w' :=
  h.mono fun _ _ q => ⟨q.1, Below.on hb q.2⟩

set_option maxRecDepth 100000 in
set_option maxHeartbeats 4000000 in
theorem parts_any (r : Rc) (hr : may r = true) (ok : r.Ok) : ∀ (k : Nat) (a : Option Addr) (n c : Nat) (l : List Rc) (w : World), n ≤ k → RdC w a n c l → n ≤ 40 →
    Calls Tryd.prog 46 #[.agg #[.int .i64 r.x, .int .i64 r.y, .int .i64 r.w, .int .i64 r.h], .slice a n c] w fun e w' => ∃ m, Prt r l m ∧ Ret w m e w' := by
  intro k
  induction k with
  | zero =>
    intro a n c l w hk h hn
    obtain rfl : n = 0 := by omega
    obtain rfl : l = [] := List.eq_nil_of_length_eq_zero h.len
    have HB := hid (below_new w (ob r))
    rw [ob] at HB
    clear h
    go_enter Tryd.func46, Tryd.ntmps46
    go_wp2
    go_ret
    exact ⟨[], prt_nil r, none, 0, rfl, RdC.nil _, HB.out⟩
  | succ k ih =>
    intro a n c l w hk h hn
    have HB := hid (below_new w (ob r))
    have HX := hid (bx_new w r)
    rw [ob] at HB
    have H := hid (h.on HB.out)
    have hsm := h.small
    have hle := h.le
    have HL := hid h.len
    have IH := hid ih
    clear h ih
    by_cases h0 : n = 0
    · subst h0
      obtain rfl : l = [] := List.eq_nil_of_length_eq_zero HL.out
      go_enter Tryd.func46, Tryd.ntmps46
      go_wp2
      go_ret
      exact ⟨[], prt_nil r, none, 0, rfl, RdC.nil _, HB.out⟩
    · have e0 : ((n : Int) == 0) = false := by
        rw [beq_eq_false_iff_ne]
        omega
      obtain ⟨b, off, q, rfl, hbl, hq, okq, he⟩ := H.out.el (j := 0) (by omega)
      by_cases h1 : n = 1
      · subst h1
        obtain rfl : l = [q] := by
          have := HL.out
          match l, this, hq with
          | [z], _, hq => simp only [List.getElem?_cons_zero, Option.some.injEq] at hq; rw [hq]
        rw [Nat.zero_mul, Nat.add_zero] at he
        have HE := hid he
        have CB := hid (fun u => bound_any q okq u)
        have okb : (bnd q).Ok := by
          rcases bnd_cases q with h' | h'
          · rw [bnd_rz h']
            exact rz_ok
          · exact h'.ok
        have CC := hid (fun u => cut_any (bnd q) r okb ok u)
        have okc : (cut (bnd q) r).Ok := cut_ok (may_bnd q) hr
        have CO := hid (fun u => of_any (cut (bnd q) r) okc u)
        have HP := hid (prt_one hr q)
        clear he
        go_enter Tryd.func46, Tryd.ntmps46
        go_wp2
        obtain ⟨U, HU⟩ : ∃ U, Hid (U = w.alloc (.cells #[.int .i64 r.x, .int .i64 r.y, .int .i64 r.w, .int .i64 r.h] 24)) := ⟨_, rfl⟩
        rw [← HU.out] at HX HE HB H
        rw [← HU.out]
        refine wp_region_held_drew (S := fun x => Below U.heap.size U x) (by kernel_rfl) ?hh (fun hHeld => ?_)
        case hh => exact ((Below.refl _ _).drew)
        refine wpAnyH_take (i := 0) (v := ?_) rfl (by kernel_rfl) (by kernel_rfl) (by kernel_rfl) (fun _ _ _ h => h) (Or.inl ⟨by kernel_rfl, ?hy0⟩) (by assumption) ?_
        case hy0 => (intro w hSw; (try dsimp only at hSw); obtain ⟨t0, t1, t2, t3⟩ := (HX.out.on hSw).all; obtain ⟨_, s0, s1, s2, s3⟩ := HE.out.on hSw; go_simp; try with_reducible rfl)
        try simp only [Act.put, List.getElem_toArray, List.getElem_cons_zero, List.setIfInBounds_toArray, List.set_cons_zero, List.set_cons_succ]
        refine wpAnyH_take (i := 1) (v := ?_) rfl (by kernel_rfl) (by kernel_rfl) (by kernel_rfl) (fun _ _ _ h => h) (Or.inl ⟨by kernel_rfl, ?hy1⟩) (by assumption) ?_
        case hy1 => (intro w hSw; (try dsimp only at hSw); obtain ⟨t0, t1, t2, t3⟩ := (HX.out.on hSw).all; obtain ⟨_, s0, s1, s2, s3⟩ := HE.out.on hSw; go_simp; try with_reducible rfl)
        try simp only [Act.put, List.getElem_toArray, List.getElem_cons_zero, List.getElem_cons_succ, List.setIfInBounds_toArray, List.set_cons_zero, List.set_cons_succ]
        refine wpAnyH_take (i := 2) (v := ?_) rfl (by kernel_rfl) (by kernel_rfl) (by kernel_rfl) (fun _ _ _ h => h) (Or.inl ⟨by kernel_rfl, ?hy2⟩) (by assumption) ?_
        case hy2 => (intro w hSw; (try dsimp only at hSw); obtain ⟨t0, t1, t2, t3⟩ := (HX.out.on hSw).all; obtain ⟨_, s0, s1, s2, s3⟩ := HE.out.on hSw; go_simp; try with_reducible rfl)
        try simp only [Act.put, List.getElem_toArray, List.getElem_cons_zero, List.getElem_cons_succ, List.setIfInBounds_toArray, List.set_cons_zero, List.set_cons_succ]
        refine wpAnyH_take (i := 4) (v := ?_) rfl (by kernel_rfl) (by kernel_rfl) (by kernel_rfl) (fun _ _ _ h => h) (Or.inl ⟨by kernel_rfl, ?hy4⟩) (by assumption) ?_
        case hy4 => (intro w hSw; (try dsimp only at hSw); obtain ⟨t0, t1, t2, t3⟩ := (HX.out.on hSw).all; obtain ⟨_, s0, s1, s2, s3⟩ := HE.out.on hSw; go_simp; try with_reducible rfl)
        try simp only [Act.put, List.getElem_toArray, List.getElem_cons_zero, List.getElem_cons_succ, List.setIfInBounds_toArray, List.set_cons_zero, List.set_cons_succ]
        refine wpAnyH_ready (rs := [3]) (by kernel_rfl) (by simp) ?_
        refine AllReadyH.cons rfl (fun K hK => ?_) AllReadyH.nil
        go_simp
        go_wp2_with fail
        refine (thn (CB.out _) hHeld).mono ?_
        rintro e u203 ⟨rfl, hS3⟩
        refine hK.out _ _ hS3 (fun _ => ?_)
        clear hK K hHeld
        have hHeld := hS3
        clear hS3
        refine wpAnyH_ready (rs := [5]) (by kernel_rfl) (by simp) ?_
        refine AllReadyH.cons rfl (fun K hK => ?_) AllReadyH.nil
        go_simp
        go_wp2_with fail
        refine (thn (CC.out _) hHeld).mono ?_
        rintro e u205 ⟨rfl, hS5⟩
        refine hK.out _ _ hS5 (fun _ => ?_)
        clear hK K hHeld
        have hHeld := hS5
        clear hS5
        refine wpAnyH_ready (rs := [6]) (by kernel_rfl) (by simp) ?_
        refine AllReadyH.cons rfl (fun K hK => ?_) AllReadyH.nil
        go_simp
        go_wp2_with fail
        refine (CO.out _).mono ?_
        rintro e u9 ⟨a9, c9, rfl, hR, hb⟩
        have hB9 := Below.on hHeld hb
        refine hK.out _ _ hB9 (fun _ => ?_)
        clear hK K hHeld hb
        refine wpAnyH_take (i := 7) (v := ?_) rfl (by kernel_rfl) (by kernel_rfl) (by kernel_rfl) (fun _ _ _ h => h) (Or.inl ⟨by kernel_rfl, ?hy7⟩) (by assumption) ?_
        case hy7 => (intro w hSw; (try dsimp only at hSw); obtain ⟨t0, t1, t2, t3⟩ := (HX.out.on hSw).all; obtain ⟨_, s0, s1, s2, s3⟩ := HE.out.on hSw; go_simp; try with_reducible rfl)
        try simp only [Act.put, List.getElem_toArray, List.getElem_cons_zero, List.getElem_cons_succ, List.setIfInBounds_toArray, List.set_cons_zero, List.set_cons_succ]
        refine wpAnyH_done (by kernel_rfl) ?_ _
        go_wp2
        go_ret
        exact ⟨_, HP.out, a9, c9, rfl, hR, Below.on HB.out hB9⟩
      · have e1 : ((n : Int) == 1) = false := by
          rw [beq_eq_false_iff_ne]
          omega
        obtain ⟨m, hm⟩ : ∃ m, n / 2 = m := ⟨_, rfl⟩
        have hm1 : 1 ≤ m ∧ m < n ∧ m ≤ 20 ∧ n - m ≤ 20 := by omega
        have e2 : (n : Int).tdiv 2 = m := by
          rw [Int.tdiv_eq_ediv_of_nonneg (by omega)]
          omega
        have e3 : IntKind.i64.wrap (m : Int) = m := by
          rw [IntKind.wrap_i64]
          omega
        have e4 : m ≤ c := by omega
        have e5 : m ≤ n := by omega
        have e6 : ¬ c = m := by omega
        clear hm
        have H1 := hid (H.out.take (k := m) (by omega))
        have H2 := hid (H.out.drop (k := m) (by omega))
        have HLL : Hid (l.take m ++ l.drop m = l) := List.take_append_drop m l
        clear he hq
        go_enter Tryd.func46, Tryd.ntmps46
        go_wp2
        obtain ⟨U, HU⟩ : ∃ U, Hid (U = w.alloc (.cells #[.int .i64 r.x, .int .i64 r.y, .int .i64 r.w, .int .i64 r.h] 24)) := ⟨_, rfl⟩
        rw [← HU.out] at HX HB H H1 H2
        rw [← HU.out]
        refine wp_region_held_drew (S := fun x => Below U.heap.size U x) (by kernel_rfl) ?hh (fun hHeld => ?_)
        case hh => exact ((Below.refl _ _).drew)
        refine wpAnyH_take (i := 0) (v := ?_) rfl (by kernel_rfl) (by kernel_rfl) (by kernel_rfl) (fun _ _ _ h => h) (Or.inl ⟨by kernel_rfl, ?hy0⟩) (by assumption) ?_
        case hy0 => (intro w hSw; (try dsimp only at hSw); obtain ⟨t0, t1, t2, t3⟩ := (HX.out.on hSw).all; go_simp; try with_reducible rfl)
        try simp only [Act.put, List.getElem_toArray, List.getElem_cons_zero, List.setIfInBounds_toArray, List.set_cons_zero, List.set_cons_succ]
        refine wpAnyH_take (i := 1) (v := ?_) rfl (by kernel_rfl) (by kernel_rfl) (by kernel_rfl) (fun _ _ _ h => h) (Or.inl ⟨by kernel_rfl, ?hy1⟩) (by assumption) ?_
        case hy1 => (intro w hSw; (try dsimp only at hSw); obtain ⟨t0, t1, t2, t3⟩ := (HX.out.on hSw).all; go_simp; try with_reducible rfl)
        try simp only [Act.put, List.getElem_toArray, List.getElem_cons_zero, List.getElem_cons_succ, List.setIfInBounds_toArray, List.set_cons_zero, List.set_cons_succ]
        refine wpAnyH_take (i := 2) (v := ?_) rfl (by kernel_rfl) (by kernel_rfl) (by kernel_rfl) (fun _ _ _ h => h) (Or.inl ⟨by kernel_rfl, ?hy2⟩) (by assumption) ?_
        case hy2 => (intro w hSw; (try dsimp only at hSw); obtain ⟨t0, t1, t2, t3⟩ := (HX.out.on hSw).all; go_simp; try with_reducible rfl)
        try simp only [Act.put, List.getElem_toArray, List.getElem_cons_zero, List.getElem_cons_succ, List.setIfInBounds_toArray, List.set_cons_zero, List.set_cons_succ]
        refine wpAnyH_take (i := 3) (v := ?_) rfl (by kernel_rfl) (by kernel_rfl) (by kernel_rfl) (fun _ _ _ h => h) (Or.inl ⟨by kernel_rfl, ?hy3⟩) (by assumption) ?_
        case hy3 => (intro w hSw; (try dsimp only at hSw); obtain ⟨t0, t1, t2, t3⟩ := (HX.out.on hSw).all; go_simp; try with_reducible rfl)
        try simp only [Act.put, List.getElem_toArray, List.getElem_cons_zero, List.getElem_cons_succ, List.setIfInBounds_toArray, List.set_cons_zero, List.set_cons_succ]
        refine wpAnyH_take (i := 4) (v := ?_) rfl (by kernel_rfl) (by kernel_rfl) (by kernel_rfl) (fun _ _ _ h => h) (Or.inl ⟨by kernel_rfl, ?hy4⟩) (by assumption) ?_
        case hy4 => (intro w hSw; (try dsimp only at hSw); obtain ⟨t0, t1, t2, t3⟩ := (HX.out.on hSw).all; go_simp; try with_reducible rfl)
        try simp only [Act.put, List.getElem_toArray, List.getElem_cons_zero, List.getElem_cons_succ, List.setIfInBounds_toArray, List.set_cons_zero, List.set_cons_succ]
        refine wpAnyH_take (i := 6) (v := ?_) rfl (by kernel_rfl) (by kernel_rfl) (by kernel_rfl) (fun _ _ _ h => h) (Or.inl ⟨by kernel_rfl, ?hy6⟩) (by assumption) ?_
        case hy6 => (intro w hSw; (try dsimp only at hSw); obtain ⟨t0, t1, t2, t3⟩ := (HX.out.on hSw).all; go_simp; try with_reducible rfl)
        try simp only [Act.put, List.getElem_toArray, List.getElem_cons_zero, List.getElem_cons_succ, List.setIfInBounds_toArray, List.set_cons_zero, List.set_cons_succ]
        refine wpAnyH_take (i := 7) (v := ?_) rfl (by kernel_rfl) (by kernel_rfl) (by kernel_rfl) (fun _ _ _ h => h) (Or.inl ⟨by kernel_rfl, ?hy7⟩) (by assumption) ?_
        case hy7 => (intro w hSw; (try dsimp only at hSw); obtain ⟨t0, t1, t2, t3⟩ := (HX.out.on hSw).all; go_simp; try with_reducible rfl)
        try simp only [Act.put, List.getElem_toArray, List.getElem_cons_zero, List.getElem_cons_succ, List.setIfInBounds_toArray, List.set_cons_zero, List.set_cons_succ]
        refine wpAnyH_take (i := 8) (v := ?_) rfl (by kernel_rfl) (by kernel_rfl) (by kernel_rfl) (fun _ _ _ h => h) (Or.inl ⟨by kernel_rfl, ?hy8⟩) (by assumption) ?_
        case hy8 => (intro w hSw; (try dsimp only at hSw); obtain ⟨t0, t1, t2, t3⟩ := (HX.out.on hSw).all; go_simp; try with_reducible rfl)
        try simp only [Act.put, List.getElem_toArray, List.getElem_cons_zero, List.getElem_cons_succ, List.setIfInBounds_toArray, List.set_cons_zero, List.set_cons_succ]
        refine wpAnyH_take (i := 9) (v := ?_) rfl (by kernel_rfl) (by kernel_rfl) (by kernel_rfl) (fun _ _ _ h => h) (Or.inl ⟨by kernel_rfl, ?hy9⟩) (by assumption) ?_
        case hy9 => (intro w hSw; (try dsimp only at hSw); obtain ⟨t0, t1, t2, t3⟩ := (HX.out.on hSw).all; go_simp; try with_reducible rfl)
        try simp only [Act.put, List.getElem_toArray, List.getElem_cons_zero, List.getElem_cons_succ, List.setIfInBounds_toArray, List.set_cons_zero, List.set_cons_succ]
        refine wpAnyH_take (i := 10) (v := ?_) rfl (by kernel_rfl) (by kernel_rfl) (by kernel_rfl) (fun _ _ _ h => h) (Or.inl ⟨by kernel_rfl, ?hy10⟩) (by assumption) ?_
        case hy10 => (intro w hSw; (try dsimp only at hSw); obtain ⟨t0, t1, t2, t3⟩ := (HX.out.on hSw).all; go_simp; try with_reducible rfl)
        try simp only [Act.put, List.getElem_toArray, List.getElem_cons_zero, List.getElem_cons_succ, List.setIfInBounds_toArray, List.set_cons_zero, List.set_cons_succ]
        refine wpAnyH_ready (rs := [5]) (by kernel_rfl) (by simp) ?_
        refine AllReadyH.cons rfl (fun K hK => ?_) AllReadyH.nil
        go_simp
        go_wp2_with fail
        refine (IH.out _ m c (l.take m) _ (by omega) (H1.out.on hHeld) (by omega)).mono ?_
        rintro e u5 ⟨m5, hP5, a5, c5, rfl, hR5, hb⟩
        have hB5 := Below.on hHeld hb
        refine hK.out _ _ hB5 (fun _ => ?_)
        clear hK K hHeld hb
        have hHeld := hB5
        clear hB5
        refine wpAnyH_ready (rs := [11]) (by kernel_rfl) (by simp) ?_
        refine AllReadyH.cons rfl (fun K hK => ?_) AllReadyH.nil
        go_simp
        go_wp2_with fail
        refine (IH.out _ (n - m) (c - m) (l.drop m) _ (by omega) (H2.out.on hHeld) (by omega)).mono ?_
        rintro e u6 ⟨m6, hP6, a6, c6, rfl, hR6, hb⟩
        have hB6 := Below.on hHeld hb
        refine hK.out _ _ hB6 (fun _ => ?_)
        have hR5' := hR5.on hb
        clear hK K hHeld hb hR5
        have hHeld := hB6
        clear hB6
        refine wpAnyH_ready (rs := [12]) (by kernel_rfl) (by simp) ?_
        refine AllReadyH.cons rfl (fun K hK => ?_) AllReadyH.nil
        go_simp
        go_wp2_with fail
        refine (union_reg hR5' hR6 hP5.gd hP6.gd ?_).mono ?_
        · exact gd_few (by rw [List.length_take, HL.out]; omega) (by rw [List.length_drop, HL.out]; omega)
        rintro e u7 ⟨a7, c7, rfl, hR7, hb⟩
        have hB7 := Below.on hHeld hb
        refine hK.out _ _ hB7 (fun _ => ?_)
        clear hK K hHeld hb
        refine wpAnyH_take (i := 13) (v := ?_) rfl (by kernel_rfl) (by kernel_rfl) (by kernel_rfl) (fun _ _ _ h => h) (Or.inl ⟨by kernel_rfl, ?hy13⟩) (by assumption) ?_
        case hy13 => (intro w hSw; (try dsimp only at hSw); obtain ⟨t0, t1, t2, t3⟩ := (HX.out.on hSw).all; go_simp; try with_reducible rfl)
        try simp only [Act.put, List.getElem_toArray, List.getElem_cons_zero, List.getElem_cons_succ, List.setIfInBounds_toArray, List.set_cons_zero, List.set_cons_succ]
        refine wpAnyH_done (by kernel_rfl) ?_ _
        go_wp2
        go_ret
        have hP := prt_two hP5 hP6
        rw [HLL.out] at hP
        exact ⟨_, hP, a7, c7, rfl, hR7, Below.on HB.out hB7⟩
end Go.Proofs.YtmiapccngeafkaaDoor
