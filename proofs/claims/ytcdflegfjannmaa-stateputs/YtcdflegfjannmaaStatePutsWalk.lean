/- StatePuts: for every slice of children, every child and every number the law returns true; nothing that was there has turned. Written by state/mk_puts.py. -/
import Derived.Test.YtcdflegfjannmaaStaL
namespace Go.Proofs.Ytcdflegfjannmaa.statePuts
open Go Go.RowKit

theorem agg3 {a b c x y z : Int} (h : Value.agg #[.int .i64 a, .int .i64 b, .int .i64 c] = Value.agg #[.int .i64 x, .int .i64 y, .int .i64 z]) : a = x ∧ b = y ∧ c = z := by
  simpa using h

set_option maxRecDepth 100000 in
set_option maxHeartbeats 4000000 in
theorem core (a : Option Addr) (n c : Nat) (l : List (List Int)) (z0 z1 z2 id : Int) (w : World) (h : RdM 3 w a n c l) :
    Calls Try.prog 6 #[.slice a n c, .agg #[.int .i64 z0, .int .i64 z1, .int .i64 z2], .int .i64 id] w fun e w' => e = .returned (.bool true) ∧ Below w.heap.size w w' := by
  obtain ⟨i0, hi, hn0, hn1, hn2⟩ := infoMP infoM3
  have hs := h.small
  have hb := bel_new w (.cells #[.int .i64 z0, .int .i64 z1, .int .i64 z2] 28)
  have HK := hid (bk_new w #[.int .i64 z0, .int .i64 z1, .int .i64 z2] 28)
  have HB := hid hb
  have H := hid h
  have HL := hid h.len
  have HSZ := hid h.size
  clear h hb
  go_enter Try.func6, Try.ntmps6
  by_cases hbig : 60 < n
  · have e1 : decide ((60 : Int) < n) = true := decide_eq_true (by omega)
    go_wp2_with fail
    refine (awake_any _).mono ?_
    rintro e w1 ⟨rfl, hb1⟩
    have HB1 := hid (Below.on HB.out hb1)
    clear hb1
    go_wp2
    go_ret
    exact ⟨rfl, HB1.out⟩
  have e1 : decide ((60 : Int) < n) = false := decide_eq_false (by omega)
  go_upto_region 3 with fail
  go_cut [7] (fun v wc => ∃ k : Option Addr × Nat, v = .slice k.1 (put1 l [z0, z1, z2]).length k.2 ∧ RdM 3 wc k.1 (put1 l [z0, z1, z2]).length k.2 (put1 l [z0, z1, z2]) ∧ RowKit.Below (w.alloc (.cells #[.int .i64 z0, .int .i64 z1, .int .i64 z2] 28)).heap.size (w.alloc (.cells #[.int .i64 z0, .int .i64 z1, .int .i64 z2] 28)) wc)
  case first =>
    refine wp_region_held_drew (S := fun u => RowKit.Below (w.alloc (.cells #[.int .i64 z0, .int .i64 z1, .int .i64 z2] 28)).heap.size (w.alloc (.cells #[.int .i64 z0, .int .i64 z1, .int .i64 z2] 28)) u) (by kernel_rfl) ?hh (fun hHeld => ?_)
    case hh => exact ((Below.refl _ _).drew)
    generalize World.drew _ = W0 at hHeld ⊢
    try dsimp only at hHeld
    refine wpAnyH_take (i := 0) (v := ?_) rfl (by kernel_rfl) (by kernel_rfl) (by kernel_rfl) (fun _ _ _ h => h) (Or.inl ⟨by kernel_rfl, ?hy0⟩) (by assumption) ?_
    case hy0 => (intro w hSw; (try dsimp only at hSw); have t0 := (HK.out.on hSw).cell 0; have t1 := (HK.out.on hSw).cell 1; have t2 := (HK.out.on hSw).cell 2; go_simp; try with_reducible rfl)
    try simp only [Act.put, List.getElem_toArray, List.getElem_cons_zero, List.setIfInBounds_toArray, List.set_cons_zero, List.set_cons_succ]
    refine wpAnyH_take (i := 2) (v := ?_) rfl (by kernel_rfl) (by kernel_rfl) (by kernel_rfl) (fun _ _ _ h => h) (Or.inl ⟨by kernel_rfl, ?hy2⟩) (by assumption) ?_
    case hy2 => (intro w hSw; (try dsimp only at hSw); have t0 := (HK.out.on hSw).cell 0; have t1 := (HK.out.on hSw).cell 1; have t2 := (HK.out.on hSw).cell 2; go_simp; try with_reducible rfl)
    try simp only [Act.put, List.getElem_toArray, List.getElem_cons_zero, List.getElem_cons_succ, List.setIfInBounds_toArray, List.set_cons_zero, List.set_cons_succ]
    refine wpAnyH_ready (rs := [1]) (by kernel_rfl) (by simp) ?_
    refine AllReadyH.cons rfl (fun K hK => ?_) AllReadyH.nil
    refine step_appG (by kernel_rfl) (.const (.slice none 0 0)) (.tmp 18) 24 24 rfl W0.heap.size 28 i0 (.agg #[.int .i64 0, .int .i64 0, .int .i64 0]) 3 24 Try.underlying24 hi hn0 hn1 hn2 rfl _ _ _ (by simp [Act.eval]) (World.ownsRow_nil _ _ _ _) _ _ _ (by simp [Act.eval]) ((H.out.on (Below.on HB.out hHeld)).src Try.underlying24) (by simp only [maxLen]; omega) (fitsM (by omega) (by decide)) (Nat.le_refl _) ?_
    intro v1 W1 o1 g1
    rw [Nat.zero_add, List.nil_append] at o1
    have hb := (kp_of_grown g1).below (Nat.le_refl _) (fun k hk => by cases hk)
    have hO : OwM 3 28 W0 W1 v1 l := ⟨by rw [HL.out]; exact o1, hb, HSZ.out⟩
    obtain ⟨a1, c1, rfl, hR, -⟩ := hO.rd
    have HR1 := hid hR
    replace hHeld := Below.on hHeld hb
    refine hK.out _ _ hHeld (fun _ => ?_)
    clear hK K o1 g1 hb hO hR
    try simp only [Act.put, List.getElem_toArray, List.getElem_cons_zero, List.getElem_cons_succ, List.setIfInBounds_toArray, List.set_cons_zero, List.set_cons_succ]
    refine wpAnyH_ready (rs := [3]) (by kernel_rfl) (by simp) ?_
    refine AllReadyH.cons rfl (fun K hK => ?_) AllReadyH.nil
    go_simp
    go_wp2_with fail
    refine (sput_any _ _ _ _ z0 z1 z2 _ HR1.out (by rw [HL.out]; omega)).mono ?_
    rintro e W3 ⟨v3, rfl, hO3⟩
    obtain ⟨a3, c3, rfl, hR3, -⟩ := hO3.rd
    have HR3 := hid hR3
    replace hHeld := Below.on hHeld hO3.bel
    refine hK.out _ _ hHeld (fun _ => ?_)
    clear hK K hO3 hR3
    try simp only [Act.put, List.getElem_toArray, List.getElem_cons_zero, List.getElem_cons_succ, List.setIfInBounds_toArray, List.set_cons_zero, List.set_cons_succ]
    refine wpAnyH_take (i := 4) (v := ?_) rfl (by kernel_rfl) (by kernel_rfl) (by kernel_rfl) (fun _ _ _ h => h) (Or.inl ⟨by kernel_rfl, ?hy4⟩) (by assumption) ?_
    case hy4 => (intro w hSw; (try dsimp only at hSw); have t0 := (HK.out.on hSw).cell 0; have t1 := (HK.out.on hSw).cell 1; have t2 := (HK.out.on hSw).cell 2; go_simp; try with_reducible rfl)
    try simp only [Act.put, List.getElem_toArray, List.getElem_cons_zero, List.getElem_cons_succ, List.setIfInBounds_toArray, List.set_cons_zero, List.set_cons_succ]
    refine wpAnyH_done (by kernel_rfl) ?_ _
    go_wp2_with fail
    go_meet
    exact ⟨(a3, c3), rfl, HR3.out, hHeld⟩
  obtain ⟨⟨a3, c3⟩, rfl, hR3, hb3⟩ := hcut
  dsimp only at hR3 ⊢
  obtain ⟨N, hN⟩ : ∃ N, (put1 l [z0, z1, z2]).length = N := ⟨_, rfl⟩
  have hNl := put1_length (l := l) (c := [z0, z1, z2])
  rw [hN, HL.out] at hNl
  rw [hN] at hR3 ⊢
  have HR3 := hid hR3
  have HK3 := hid (HK.out.on hb3)
  have HB3 := hid (Below.on HB.out hb3)
  have HL3 := hid (H.out.on HB3.out)
  have hs3 := hR3.small
  have t0 := HK3.out.cell 0
  have t1 := HK3.out.cell 1
  have t2 := HK3.out.cell 2
  clear hR3 hb3 hN HK HB
  go_wp2_with fail
  refine (find_any _ _ _ _ z0 _ HR3.out).mono ?_
  rintro e w4 ⟨x0, x1, x2, b4, rfl, hF4, hb4⟩
  rw [FndV, show fnd z0 (put1 l [z0, z1, z2]) = some [z0, z1, z2] from fnd_put1 l [z0, z1, z2]] at hF4
  obtain ⟨hF4, rfl⟩ := hF4
  obtain ⟨rfl, rfl, rfl⟩ := agg3 hF4
  have b5 := Below.on hb4 (bel_new w4 (.cells #[.int .i64 x0, .int .i64 x1, .int .i64 x2] 28))
  have HK5 := hid (HK3.out.on b5)
  have HB5 := hid (Below.on HB3.out b5)
  have HR5 := hid (HR3.out.on b5)
  have HL5 := hid (HL3.out.on b5)
  have HX5 := hid (bk_new w4 #[.int .i64 x0, .int .i64 x1, .int .i64 x2] 28)
  have hz4 := hb4.size
  clear hF4 hb4 b5 t0 t1 t2 HR3 HK3 HB3 HL3
  go_wp2_with fail
  refine (find_any _ _ _ _ id _ HR5.out).mono ?_
  rintro e w6 ⟨y0, y1, y2, b6, rfl, hF6, hb6⟩
  have b7 := Below.on hb6 (bel_new w6 (.cells #[.int .i64 y0, .int .i64 y1, .int .i64 y2] 28))
  have HF6 := hid hF6
  have HK7 := hid (HK5.out.on b7)
  have HB7 := hid (Below.on HB5.out b7)
  have HL7 := hid (HL5.out.on b7)
  have HX7 := hid (HX5.out.on b7)
  have HY7 := hid (bk_new w6 #[.int .i64 y0, .int .i64 y1, .int .i64 y2] 28)
  clear hF6 hb6 b7 HR5 HK5 HB5 HL5 HX5
  go_wp2_with fail
  refine (find_any _ _ _ _ id _ HL7.out).mono ?_
  rintro e w8 ⟨u0', u1', u2', b8, rfl, hF8, hb8⟩
  have b9 := Below.on hb8 (bel_new w8 (.cells #[.int .i64 u0', .int .i64 u1', .int .i64 u2'] 28))
  have HF8 := hid hF8
  have HB9 := hid (Below.on HB7.out b9)
  have k9 := HK7.out.on b9
  have x9 := HX7.out.on b9
  have y9 := HY7.out.on b9
  have v9 := bk_new w8 #[.int .i64 u0', .int .i64 u1', .int .i64 u2'] 28
  have q0 := k9.cell 0
  have q1 := k9.cell 1
  have q2 := k9.cell 2
  have r0 := x9.cell 0
  have r1 := x9.cell 1
  have r2 := x9.cell 2
  have s0 := y9.cell 0
  have s1 := y9.cell 1
  have s2 := y9.cell 2
  have g3 := eqlM3_guard
  have q3 := eqlM3
  have hxx : leq [x0, x1, x2] [x0, x1, x2] = true := decide_eq_true rfl
  have hge : decide ((n : Int) ≤ N) = true := decide_eq_true (by omega)
  have hle : decide ((N : Int) ≤ (n : Int) + 1) = true := decide_eq_true (by omega)
  clear hF8 hb8 b9 HK7 HX7 HY7 HB7 HL7 k9 x9 y9 v9
  cases hq : (id == x0)
  · have hne : id ≠ x0 := by simpa using hq
    have h6 := HF6.out
    rw [FndV, fnd_other l [x0, x1, x2] (show id ≠ hd [x0, x1, x2] from hne)] at h6
    obtain ⟨hv, rfl⟩ := FndV.same (k := id) (l := l) h6 HF8.out
    obtain ⟨rfl, rfl, rfl⟩ := agg3 hv
    have hyy : leq [y0, y1, y2] [y0, y1, y2] = true := decide_eq_true rfl
    have hbb : (b6 == b6) = true := by simp
    clear h6 hv HF6 HF8 hne
    go_wp2_with fail
    refine (awake_any _).mono ?_
    rintro e w10 ⟨rfl, hb10⟩
    have HB10 := hid (Below.on HB9.out hb10)
    clear hb10
    go_wp2
    go_ret
    exact ⟨rfl, HB10.out⟩
  · clear HF6 HF8
    go_wp2_with fail
    refine (awake_any _).mono ?_
    rintro e w10 ⟨rfl, hb10⟩
    have HB10 := hid (Below.on HB9.out hb10)
    clear hb10
    go_wp2
    go_ret
    exact ⟨rfl, HB10.out⟩

theorem walk (a : Option Addr) (n c : Nat) (l : List (List Int)) (z0 z1 z2 id : Int) (w : World) (h : RdN 3 w a n c l) (_h1 : ∀ z ∈ [z0, z1, z2], (Lit.int .i64 z).wf = true) (_h2 : (Lit.int .i64 id).wf = true) :
    Calls Try.prog 6 #[.slice a n c, .agg #[.int .i64 z0, .int .i64 z1, .int .i64 z2], .int .i64 id] w fun e w' => e = .returned (.bool true) ∧ Below w.heap.size w w' := core a n c l z0 z1 z2 id w (rdm_of_rdn (by decide) h)
end Go.Proofs.Ytcdflegfjannmaa.statePuts
