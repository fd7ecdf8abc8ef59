/- The document's windows: Send, Add. -/
import Derived.Test.YtnlaegleekghmaaDoorRsC
namespace Go.Proofs.YtnlaegleekghmaaDoor
open Go Go.RowKit

variable {base : Nat} {w w' : World} {q : Nat} {v : Value} {R : Dwl} {id : Int} {e : Dw}
theorem obk_of {P : Nat → Prop} {a : Option Addr} (h : ∀ x, a = some x → P x.block) : ∀ b ∈ obk a, P b := fun b hb => by
  obtain ⟨x, hx, rfl⟩ := mem_obk.1 hb
  exact h x hx
/-- The row's cells behind calls that only make memory. -/
theorem Ds.kc (h : Ds base w q v R) (hq : gt R id = some e) {g n c : Nat} (hv : v = .slice (some ⟨g, 0, none⟩) n c) (u : World) (hb : Below w.heap.size w u) : u.cell? ⟨g, ix R id * 3 + 1, none⟩ = some (.int .i64 e.s.step) ∧ u.cell? ⟨g, ix R id * 3 + 2, none⟩ = some (.slice e.a e.n e.c) ∧ (∀ j, u.frozen? ⟨g, j, none⟩ = false) ∧ g < u.heap.size := by
  obtain ⟨g', c', hv', _, h1, _, h2, h3, h4⟩ := (h.on hb).at_ hq
  rw [hv] at hv'
  cases hv'
  exact ⟨h3, h4, h2, h1⟩
set_option maxRecDepth 100000 in
set_option maxHeartbeats 1000000 in
theorem rsend18_any (h : Ds base w q v R) (id z : Int) (hl : ∀ e, gt R id = some e → e.n ≤ 1000000) :
    Calls Tryd.prog 19 #[.pointer (some ⟨q, 0, none⟩), .int .i64 id, .int .i64 z] w fun e w' => e = .returned (.int .i64 (wUntE (dab R) id : Nat)) ∧ DsR base w q v R (wUp (dab R) id (sndS z)) w' := by
  have HS := hid (rstep_any h id)
  have HW := hid (rw_any h id)
  by_cases hq : ∀ e, gt R id = some e → e.s.step = 0
  · have HR := hid ((DsR.refl h (Below.refl _ _)).as (dUn_no (f := sndS z) (fun x hx => by rw [sndS, if_pos hx]) hq).symm)
    have e1 := (dUntE_no hq).2
    rw [(dUntE_no hq).1]
    clear hq h HW hl
    generalize wStep (dab R) id = k at *
    go_enter Tryd.func19, Tryd.ntmps19
    go_wp2_with fail
    refine HS.out.mono ?_
    rintro e w1 ⟨rfl, rfl⟩
    go_wp2
    go_ret
    exact ⟨rfl, HR.out⟩
  · obtain ⟨e, hq⟩ := Classical.not_forall.1 hq
    obtain ⟨hg, hs⟩ := Classical.not_imp.1 hq
    obtain ⟨g, c, hv, _⟩ := h.at_ hg
    obtain ⟨c1, c2, f1, l1⟩ := h.kc hg hv w (Below.refl _ _)
    rw [hv, rwV_yes hg] at HW
    rw [wStep_yes hg] at HS
    rw [wUntE, dErr_yes hg, if_neg hs]
    obtain ⟨i0, hi, hz0, hz1, hz2⟩ := infoZp
    have hrz := h.rd id e hg
    have hn6 := hl e hg
    have hlen := hrz.len
    have HO := hid (OwZ.nil w)
    have HSR := hid (hrz.src (P := Tryd.prog) (t := 47) (e := 3) Tryd.underlying47)
    have HN1 : Hid (∀ v' u', u'.ownsRow w.heap.size 3 1 v' (([] : List Int).length + e.n) (ic [] ++ ic e.s.ser) → w.grownBy u' (Value.slice none 0 0).ownBlock → OwZ w u' v' e.s.ser) := fun v' u' h1 h2 => (OwZ.nil w).grown hlen h1 h2
    have HN2 : Hid (∀ v' u', OwZ w u' v' e.s.ser → (u'.alloc (.cells #[.int .i64 z] 3)).ownsRow w.heap.size 3 1 v' e.s.ser.length (ic e.s.ser) ∧ w.heap.size ≤ (u'.alloc (.cells #[.int .i64 z] 3)).heap.size) := fun v' u' h1 => ⟨(h1.alloc _).own, (h1.alloc _).bel.size⟩
    have HFIN : Hid (∀ v5 u5 v6 u6, OwZ w u5 v5 e.s.ser → World.ownsRow u6 w.heap.size 3 1 v6 (e.s.ser.length + 1) (ic e.s.ser ++ ic [z]) → (u5.alloc (.cells #[.int .i64 z] 3)).grownBy u6 v5.ownBlock → ∃ a6 c6, v6 = .slice a6 (e.n + 1) c6 ∧ u6.cell? ⟨g, ix R id * 3 + 2, none⟩ = some (.slice e.a e.n e.c) ∧ (∀ j, u6.frozen? ⟨g, j, none⟩ = false) ∧ g < u6.heap.size ∧ DsR base w q v R (wUp (dab R) id (sndS z)) (u6.setCell ⟨g, ix R id * 3 + 2, none⟩ (.slice a6 (e.n + 1) c6))) := fun v5 u5 v6 u6 h1 h2 h3 => by
      have h4 : OwZ w u6 v6 (e.s.ser ++ [z]) := (h1.alloc _).grown rfl h2 h3
      obtain ⟨a6, c6, rfl, h5, h6⟩ := h4.rd
      rw [List.length_append, hlen] at h5 ⊢
      obtain ⟨_, c2, f1, l1⟩ := h.kc hg hv u6 h4.bel
      exact ⟨a6, c6, rfl, c2, f1, l1, (h.putBoth hg h4.bel hv e.s.step a6 _ c6 (e.s.ser ++ [z]) h5 (obk_of h6) _ (.inl ⟨rfl, rfl⟩)).as (dUp_some (f := sndS z) hg (by rw [sndS, if_neg hs])).symm⟩
    have e0 : decide ((e.s.step : Int) < 1) = false := decide_eq_false (by omega)
    have hlen6 : e.s.ser.length ≤ 1000000 := by omega
    clear hq h hg hs hl hrz hlen
    go_enter Tryd.func19, Tryd.ntmps19
    go_wp2_with fail
    refine HS.out.mono ?_
    rintro e' w1 ⟨rfl, rfl⟩
    go_wp2_with fail
    refine HW.out.mono ?_
    rintro e' w1 ⟨rfl, rfl⟩
    go_wp2_with (at_builtin; first | (refine wpList_append_own_src _ rfl (.const (.slice none 0 0)) (.tmp 19) 47 47 rfl w1.heap.size 3 i0 (.int .i64 0) 1 8 Tryd.underlying47 hi hz0 hz1 hz2 rfl _ _ _ rfl HO.out.own _ _ _ rfl HSR.out (by simp only [maxLen, List.length_nil]; omega) (fitsZ (by simp only [List.length_nil]; omega)) (Nat.le_refl _) ?_; intro v5 w5 o5 g5; have HZ5 := hid (HN1.out _ _ o5 g5); clear o5 g5) | (refine wpList_append_own_src _ rfl (.tmp 20) (.tmp 22) 47 47 rfl w1.heap.size 3 i0 (.int .i64 0) 1 8 Tryd.underlying47 hi hz0 hz1 hz2 rfl _ _ _ rfl (HN2.out _ _ HZ5.out).1 _ _ _ rfl (srcLit _ _) (by simp only [maxLen]; omega) (fitsZ (by omega)) (HN2.out _ _ HZ5.out).2 ?_; intro v6 w6 o6 g6; obtain ⟨a6, c6, rfl, c9, f9, l9, hR⟩ := HFIN.out _ _ _ _ HZ5.out o6 g6; have HR := hid hR; clear o6 g6 hR))
    go_ret
    exact ⟨rfl, HR.out⟩

theorem infoW : (Tryd.prog.info? 49).map (fun i => (i.zero, i.size, i.bytes)) = some (some (.agg #[.int .i64 0, .int .i64 0, .slice none 0 0]), 3, 40) := by kernel_rfl
theorem infoWp : ∃ i, Tryd.prog.info? 49 = some i ∧ i.zero = some (.agg #[.int .i64 0, .int .i64 0, .slice none 0 0]) ∧ i.size = 3 ∧ i.bytes = 40 := by
  obtain ⟨i, h1, h2⟩ := Option.map_eq_some_iff.1 infoW
  simp only [Prod.mk.injEq] at h2
  exact ⟨i, h1, h2.1, h2.2.1, h2.2.2⟩
theorem fitsW {need : Nat} (h : need ≤ 20000000) : ∀ old, old < need → Builtin.nextslicecap need old * 40 ≤ 281474976710656 := fun old ho => by
  have := nextslicecap_near ho
  omega
/-- The row, as it is appended. -/
theorem Ds.src (h : Ds base w q v R) : Src Tryd.prog 3 26 v R.length (dcs R) w := by
  rcases h.own.2 with ⟨rfl, h0⟩ | ⟨g, cap, cur, rfl, hb, hg, hc, hm, _, _⟩
  · obtain rfl : R = [] := List.eq_nil_of_length_eq_zero h0
    exact Src.ofNil w Tryd.underlying26 0
  · exact Src.ofSlice w Tryd.underlying26 _ _ _ (dcs R) (by rw [dcs_length]) (h.own.cells rfl) (dcs_one R)
/-- A row of windows of one's own, to become the shell's. -/
theorem Ds.swap (h : Ds base w q v R) {u : World} (hb : Below w.heap.size w u) {v' : Value} {R' : Dwl} (ho : u.ownsRow w.heap.size 49 3 v' R'.length (dcs R')) (hnd : (keys R').Nodup) (hR : ∀ x e, gt R' x = some e → gt R x = some e ∨ (e.a = none ∧ e.n = 0 ∧ e.c = 0 ∧ e.s.ser = [])) : DsR base w q v R (dab R') (u.setCell ⟨q, 0, none⟩ v') := by
  have hlo := h.lo
  have hlt := h.lt
  have hk : Kp [q] u (u.setCell ⟨q, 0, none⟩ v') := (Kp.refl [q] u).set ⟨q, 0, none⟩ (by simp) _
  have hk0 : Kp [q] w (u.setCell ⟨q, 0, none⟩ v') := (kp_of_below hb [q]).trans hk (fun b hb _ => hb)
  have hvq : ∀ k, v'.ownBlock = some k → w.heap.size ≤ k ∧ k < u.heap.size := fun k hk => ho.lt k hk
  refine ⟨v', R', ⟨h.lo, heap_setCell_same _ q 0 _ _ _ ((h.on hb).obj), ownsRow_low (hk.row ho (fun k hk' hm => ?_)) (by omega), fun hv => ?_, hnd, fun x e hx => ?_, fun x e hx b hb' => ?_⟩, rfl, hk0.mono (fun b hb _ => by simp only [List.mem_singleton] at hb; rw [hb]; simp [dbl]), fun b hb' => ?_⟩
  · simp only [List.mem_singleton] at hm
    have := hvq k hk'
    omega
  · have := hvq q hv
    omega
  · rcases hR x e hx with h1 | ⟨h1, h2, h3, h4⟩
    · exact (h.rd x e h1).kpo hk0 (fun b hb hm => (h.far x e h1 b hb).2.2.1 (by simpa using hm))
    · rw [h1, h2, h3, h4]
      exact Rz.nil _
  · rcases hR x e hx with h1 | ⟨h1, _⟩
    · have h2 := h.far x e h1 b hb'
      refine ⟨h2.1, Nat.lt_of_lt_of_le h2.2.1 hk0.size, h2.2.2.1, fun hv => ?_⟩
      have := hvq b hv
      omega
    · rw [h1] at hb'
      simp [obk] at hb'
  · rcases (mem_dbl hnd).1 hb' with rfl | h1 | ⟨x, e, h1, h2⟩
    · exact .inl (by simp [dbl])
    · exact .inr (hvq b h1).1
    · rcases hR x e h1 with h3 | ⟨h3, _⟩
      · exact .inl ((mem_dbl h.nd).2 (.inr (.inr ⟨x, e, h3, h2⟩)))
      · rw [h3] at h2
        simp [obk] at h2
/-- A literal's row of one window. -/
theorem srcW (w : World) (x : Int × Dw) : Src Tryd.prog 3 26 (.slice (some ⟨w.heap.size, 0, none⟩) 1 1) 1 (dcs [x]) (w.alloc (.cells #[.int .i64 x.1, .int .i64 x.2.s.step, .slice x.2.a x.2.n x.2.c] 49)) :=
  Src.ofSlice (P := Tryd.prog) _ Tryd.underlying26 ⟨w.heap.size, 0, none⟩ 1 1 (dcs [x]) rfl (fun q u hu => by
    match q, hu with
    | 0, hu => cases hu; simp [Addr.add]
    | 1, hu => cases hu; simp [Addr.add]
    | 2, hu => cases hu; simp [Addr.add]
    | q + 3, hu => simp [dcs, dcs1] at hu) (dcs_one _)
set_option maxRecDepth 100000 in
set_option maxHeartbeats 1000000 in
theorem radd18_any (h : Ds base w q v R) (id : Int) (b : Bool) (hl : R.length ≤ 1000000) :
    Calls Tryd.prog 11 #[.pointer (some ⟨q, 0, none⟩), .int .i64 id, .bool b] w fun e w' => e = .returned (.int .i64 (wAddE (dab R) id b : Nat)) ∧ DsR base w q v R (wAddF (dab R) id b) w' := by
  have HW := hid (rw_any h id)
  cases hg : gt R id with
  | some e =>
    obtain ⟨g, c, hv, _⟩ := h.at_ hg
    rw [hv, rwV_yes hg] at HW
    have HR := hid ((DsR.refl h (Below.refl _ _)).as (show dab R = wAddF (dab R) id b by rw [wAddF, gt_dab, hg]; rfl))
    rw [show wAddE (dab R) id b = 10 by rw [wAddE, gt_dab, hg]; rfl]
    clear hg h hl
    go_enter Tryd.func11, Tryd.ntmps11
    go_wp2_with fail
    refine HW.out.mono ?_
    rintro e w1 ⟨rfl, rfl⟩
    go_wp2
    go_ret
    exact ⟨rfl, HR.out⟩
  | none =>
    rw [rwV_no hg] at HW
    cases b with
    | true =>
      have HR := hid ((DsR.refl h (Below.refl _ _)).as (show dab R = wAddF (dab R) id true by rw [wAddF, gt_dab, hg]; rfl))
      rw [show wAddE (dab R) id true = 12 by rw [wAddE, gt_dab, hg]; rfl]
      clear hg h hl
      go_enter Tryd.func11, Tryd.ntmps11
      go_wp2_with fail
      refine HW.out.mono ?_
      rintro e w1 ⟨rfl, rfl⟩
      go_wp2
      go_ret
      exact ⟨rfl, HR.out⟩
    | false =>
      rw [show wAddE (dab R) id false = 0 by rw [wAddE, gt_dab, hg]; rfl]
      obtain ⟨i0, hi, hz0, hz1, hz2⟩ := infoWp
      obtain ⟨a, c, hv, hlen⟩ := h.shape
      have HSR := hid h.src
      have HO : Hid (w.ownsRow w.heap.size 49 3 (.slice none 0 0) 0 []) := World.ownsRow_nil _ _ _ _
      have hwr : wr R id (⟨none, 0, 0, ⟨0, []⟩⟩ : Dw) = R ++ [(id, ⟨none, 0, 0, ⟨0, []⟩⟩)] := by rw [wr, hg]; rfl
      have HN2 : Hid (∀ v5 u5, World.ownsRow u5 w.heap.size 49 3 v5 (0 + R.length) ([] ++ dcs R) → w.grownBy u5 (Value.slice none 0 0).ownBlock → Below w.heap.size w u5 ∧ (u5.alloc (.cells #[.int .i64 id, .int .i64 0, .slice none 0 0] 49)).ownsRow w.heap.size 49 3 v5 R.length (dcs R) ∧ w.heap.size ≤ (u5.alloc (.cells #[.int .i64 id, .int .i64 0, .slice none 0 0] 49)).heap.size) := fun v5 u5 h1 h2 => by
        rw [Nat.zero_add, List.nil_append] at h1
        have hb : Below w.heap.size w u5 := (Below.refl _ _).grown h2 (Nat.le_refl _) (fun k hk => by cases hk)
        refine ⟨hb, h1.alloc _, ?_⟩
        have := hb.size
        simp
        omega
      have HFIN : Hid (∀ v5 u5 v6 u6, Below w.heap.size w u5 → (u5.alloc (.cells #[.int .i64 id, .int .i64 0, .slice none 0 0] 49)).ownsRow w.heap.size 49 3 v5 R.length (dcs R) → World.ownsRow u6 w.heap.size 49 3 v6 (R.length + 1) (dcs R ++ dcs [(id, ⟨none, 0, 0, ⟨0, []⟩⟩)]) → (u5.alloc (.cells #[.int .i64 id, .int .i64 0, .slice none 0 0] 49)).grownBy u6 v5.ownBlock → ∃ a6 n6 c6, v6 = .slice a6 n6 c6 ∧ u6.cell? ⟨q, 0, none⟩ = some v ∧ (∀ j, u6.frozen? ⟨q, j, none⟩ = false) ∧ q < u6.heap.size ∧ DsR base w q v R (wAddF (dab R) id false) (u6.setCell ⟨q, 0, none⟩ (.slice a6 n6 c6))) := fun v5 u5 v6 u6 h0 h1 h2 h3 => by
        have hb5 : Below w.heap.size w (u5.alloc (.cells #[.int .i64 id, .int .i64 0, .slice none 0 0] 49)) := Below.on h0 ((Below.refl _ _).alloc (Nat.le_refl _) _)
        have hb6 : Below w.heap.size w u6 := hb5.grown h3 hb5.size (fun k hk => (h1.lt k hk).1)
        have h4 : u6.ownsRow w.heap.size 49 3 v6 (R ++ [(id, (⟨none, 0, 0, ⟨0, []⟩⟩ : Dw))]).length (dcs (R ++ [(id, ⟨none, 0, 0, ⟨0, []⟩⟩)])) := by
          rw [List.length_append, dcs, List.flatMap_append]
          exact h2
        have hR := h.swap hb6 h4 (by rw [← hwr]; exact keys_wr h.nd id _) (fun x e hx => by
          rw [← hwr, gt_wr] at hx
          split at hx
          · cases hx
            exact .inr ⟨rfl, rfl, rfl, rfl⟩
          · exact .inl hx)
        have h6 := h.on hb6
        rcases h2.2 with ⟨hv6, h00⟩ | ⟨g, cap, cur, rfl, _⟩
        · omega
        · exact ⟨_, _, _, rfl, h6.c0, h6.fz, h6.lt, hR.as (by rw [wAddF, gt_dab, hg, dab, List.map_append]; rfl)⟩
      have c0 := h.c0
      have l0 := h.lt
      clear h hg hwr
      subst hv
      have HLL := hid hl
      generalize hN : R.length = N at *
      clear hN
      go_enter Tryd.func11, Tryd.ntmps11
      go_wp2_with fail
      refine HW.out.mono ?_
      rintro e' w1 ⟨rfl, rfl⟩
      go_wp2_with (at_builtin; first | (refine wpList_append_own_src _ rfl (.const (.slice none 0 0)) (.tmp 18) 26 26 rfl w1.heap.size 49 i0 _ 3 40 Tryd.underlying26 hi hz0 hz1 hz2 rfl _ _ _ rfl HO.out _ _ _ rfl HSR.out (by simp only [maxLen]; omega) (fitsW (by omega)) (Nat.le_refl _) ?_; intro v5 w5 o5 g5; obtain ⟨b5, o7, s7⟩ := HN2.out _ _ o5 g5; have B5 := hid b5; have O7 := hid o7; have S7 := hid s7; clear o5 g5 b5 o7 s7) | (refine wpList_append_own_src _ rfl (.tmp 19) (.tmp 22) 26 26 rfl w1.heap.size 49 i0 _ 3 40 Tryd.underlying26 hi hz0 hz1 hz2 rfl _ _ _ rfl O7.out _ _ _ rfl (srcW _ (id, ⟨none, 0, 0, ⟨0, []⟩⟩)) (by simp only [maxLen]; omega) (fitsW (by omega)) S7.out ?_; intro v6 w6 o6 g6; obtain ⟨a6, n6, c6, rfl, c9, f9, l9, hR⟩ := HFIN.out _ _ _ _ B5.out O7.out o6 g6; have HR := hid hR; clear o6 g6 hR))
      go_ret
      exact ⟨rfl, HR.out⟩
end Go.Proofs.YtnlaegleekghmaaDoor
