/- The document's Draw. -/
import Derived.Test.YtldnggokkkhihaaDoorCanI
namespace Go.Proofs.YtldnggokkkhihaaDoor
open Go Go.RowKit

variable {w w' : World} {p b W H : Nat} {L : List Int}

theorem RdI.kept {k : IntKind} {a : Option Addr} {n c : Nat} {zs : List Int} {X : List Nat} (h : RdI k w a n c zs) (hk : Kp X w w') (hab : 0 < n → ∀ x, a = some x → x.block ∉ X) : RdI k w' a n c zs :=
  ⟨h.len, h.le, h.max, h.hnil, fun z hz j hj => by
    have h' := h.cells z hz j hj
    obtain ⟨b', off, e, _⟩ := h.plain (by omega)
    rw [hz] at e
    cases e
    rw [Go.WideShapes.add_plain] at h' ⊢
    exact hk.cell h' (show b' ∉ X from hab (by omega) _ hz), h.wf⟩

set_option maxRecDepth 100000 in
set_option maxHeartbeats 8000000 in
theorem rdraw_any (h : Cv 57 w p b W H L) (x0 y0 s t : Int) (_hx0 : I64 x0) (_hy0 : I64 y0) (_hs0 : I64 s) (_ht0 : I64 t) (a' : Option Addr) (m c' : Nat) (pix : List Int) (hp : RdI .u32 w a' m c' pix) (hm : m ≤ 400) (hab : 0 < m → ∀ x, a' = some x → x.block ≠ b) (a : Option Addr) (n c : Nat) (l : List Rc) (hr : RdC w a n c l) :
    Calls Tryd.prog 24 #[.pointer (some ⟨p, 0, none⟩), .int .i64 x0, .int .i64 y0, .int .i64 s, .int .i64 t, .slice a' m c', .slice a n c] w fun e w' => e = .returned (.tuple #[]) ∧ Cv 57 w' p b W H (drw W x0 y0 s t pix l L) ∧ Kp [b] w w' := by
  have HL := hid h.len
  have HC := hid h
  have HR := hid hr
  have HI := hid hp
  have HAB : Hid (0 < m → ∀ x, a' = some x → x.block ∉ [b]) := fun h0 x hx => by simpa using hab h0 x hx
  have hW := h.hW
  have hH := h.hH
  have ne := h.ne
  have hpl := hp.len
  have HPC := hid (fun z hz => col_of hp (z := z) hz)
  obtain ⟨N, hN⟩ : ∃ N, W * H = N := ⟨_, rfl⟩
  have hN1 : N ≤ 2304 := by rw [← hN]; exact Nat.mul_le_mul hW.2 hH.2
  have HNN := hid hN
  clear h hr hN hp hab
  have no : okD x0 y0 s t = false → Hid (drw W x0 y0 s t pix l L = L) := fun h => by rw [Hid, drw, if_neg (by rw [h]; decide)]
  go_enter Tryd.func24, Tryd.ntmps24
  by_cases h1 : s < 1
  · have e0 : decide (s < 1) = true := decide_eq_true h1
    have HF := no (by
      rw [okD, Bool.eq_false_iff]
      simp only [ne_eq, Bool.and_eq_true, decide_eq_true_eq]
      omega)
    clear no
    go_wp2
    refine bodyPost_ret (results_none rfl _ _ _) rfl ?_
    rw [HF.out]
    exact ⟨rfl, HC.out, Kp.refl _ _⟩
  have eh1 : decide (s < 1) = false := decide_eq_false h1
  by_cases h2 : t < 1
  · have e0 : decide (t < 1) = true := decide_eq_true h2
    have HF := no (by
      rw [okD, Bool.eq_false_iff]
      simp only [ne_eq, Bool.and_eq_true, decide_eq_true_eq]
      omega)
    clear no
    go_wp2
    refine bodyPost_ret (results_none rfl _ _ _) rfl ?_
    rw [HF.out]
    exact ⟨rfl, HC.out, Kp.refl _ _⟩
  have eh2 : decide (t < 1) = false := decide_eq_false h2
  by_cases h3 : 16777216 < s
  · have e0 : decide (16777216 < s) = true := decide_eq_true h3
    have HF := no (by
      rw [okD, Bool.eq_false_iff]
      simp only [ne_eq, Bool.and_eq_true, decide_eq_true_eq]
      omega)
    clear no
    go_wp2
    refine bodyPost_ret (results_none rfl _ _ _) rfl ?_
    rw [HF.out]
    exact ⟨rfl, HC.out, Kp.refl _ _⟩
  have eh3 : decide (16777216 < s) = false := decide_eq_false h3
  by_cases h4 : 16777216 < t
  · have e0 : decide (16777216 < t) = true := decide_eq_true h4
    have HF := no (by
      rw [okD, Bool.eq_false_iff]
      simp only [ne_eq, Bool.and_eq_true, decide_eq_true_eq]
      omega)
    clear no
    go_wp2
    refine bodyPost_ret (results_none rfl _ _ _) rfl ?_
    rw [HF.out]
    exact ⟨rfl, HC.out, Kp.refl _ _⟩
  have eh4 : decide (16777216 < t) = false := decide_eq_false h4
  by_cases h5 : x0 < -16777216
  · have e0 : decide (x0 < -16777216) = true := decide_eq_true h5
    have HF := no (by
      rw [okD, Bool.eq_false_iff]
      simp only [ne_eq, Bool.and_eq_true, decide_eq_true_eq]
      omega)
    clear no
    go_wp2
    refine bodyPost_ret (results_none rfl _ _ _) rfl ?_
    rw [HF.out]
    exact ⟨rfl, HC.out, Kp.refl _ _⟩
  have eh5 : decide (x0 < -16777216) = false := decide_eq_false h5
  by_cases h6 : 16777216 < x0
  · have e0 : decide (16777216 < x0) = true := decide_eq_true h6
    have HF := no (by
      rw [okD, Bool.eq_false_iff]
      simp only [ne_eq, Bool.and_eq_true, decide_eq_true_eq]
      omega)
    clear no
    go_wp2
    refine bodyPost_ret (results_none rfl _ _ _) rfl ?_
    rw [HF.out]
    exact ⟨rfl, HC.out, Kp.refl _ _⟩
  have eh6 : decide (16777216 < x0) = false := decide_eq_false h6
  by_cases h7 : y0 < -16777216
  · have e0 : decide (y0 < -16777216) = true := decide_eq_true h7
    have HF := no (by
      rw [okD, Bool.eq_false_iff]
      simp only [ne_eq, Bool.and_eq_true, decide_eq_true_eq]
      omega)
    clear no
    go_wp2
    refine bodyPost_ret (results_none rfl _ _ _) rfl ?_
    rw [HF.out]
    exact ⟨rfl, HC.out, Kp.refl _ _⟩
  have eh7 : decide (y0 < -16777216) = false := decide_eq_false h7
  by_cases h8 : 16777216 < y0
  · have e0 : decide (16777216 < y0) = true := decide_eq_true h8
    have HF := no (by
      rw [okD, Bool.eq_false_iff]
      simp only [ne_eq, Bool.and_eq_true, decide_eq_true_eq]
      omega)
    clear no
    go_wp2
    refine bodyPost_ret (results_none rfl _ _ _) rfl ?_
    rw [HF.out]
    exact ⟨rfl, HC.out, Kp.refl _ _⟩
  have eh8 : decide (16777216 < y0) = false := decide_eq_false h8
  have hok : okD x0 y0 s t = true := by
    rw [okD]
    simp only [Bool.and_eq_true, decide_eq_true_eq]
    omega
  have HEQ : Hid (drw W x0 y0 s t pix l L = trn W (gD x0 y0 s pix) (fun u v => has ⟨x0, y0, s, t⟩ u v && inC l u v) L) := by rw [Hid, drw, if_pos hok]
  rw [HEQ.out]
  obtain ⟨D, HD⟩ : ∃ D : Int → Int → Bool, Hid (D = fun u v => has ⟨x0, y0, s, t⟩ u v && inC l u v) := ⟨_, rfl⟩
  rw [← HD.out]
  obtain ⟨S, rfl⟩ : ∃ S : Nat, s = S := ⟨s.toNat, by omega⟩
  clear no hok HEQ _hs0 _ht0 _hx0 _hy0
  go_wp2
  clear eh1 eh2 eh3 eh4 eh5 eh6 eh7 eh8
  go_loopw [14] (fun q wr => ∃ y : Nat, q = .int .i64 y ∧ y ≤ H ∧ Cv 57 wr p b W H (trn W (gD x0 y0 S pix) (dR D y 0) L) ∧ RdC wr a n c l ∧ RdI .u32 wr a' m c' pix ∧ Kp [b] w wr) (fun q _ => H - (numOf q).toNat)
  case atStart => exact ⟨0, rfl, by omega, by rw [Int.ofNat_zero, dR_start HL.out]; exact HC.out, HR.out, HI.out, Kp.refl _ _⟩
  case round =>
    obtain ⟨y, rfl, hy, hC1, hR1, hI1, hK1⟩ := hrel
    have HC1 := hid hC1
    have HR1 := hid hR1
    have HI1 := hid hI1
    have HK1 := hid hK1
    have l0 := hC1.lt.1
    have d1 := hC1.c1
    clear hC1 hR1 hK1 hI1 HC HR HI
    by_cases hgy : y < H
    · have e1 : decide ((y : Int) < H) = true := decide_eq_true (by omega)
      go_wp2
      clear l0 d1
      go_loopw [15] (fun q wr => ∃ x : Nat, q = .int .i64 x ∧ x ≤ W ∧ Cv 57 wr p b W H (trn W (gD x0 y0 S pix) (dR D y x) L) ∧ RdC wr a n c l ∧ RdI .u32 wr a' m c' pix ∧ Kp [b] w wr) (fun q _ => W - (numOf q).toNat)
      case atStart => exact ⟨0, rfl, by omega, HC1.out, HR1.out, HI1.out, HK1.out⟩
      case round =>
        obtain ⟨x, rfl, hx, hC2, hR2, hI2, hK2⟩ := hrel
        have HC2 := hid hC2
        have HR2 := hid hR2
        have HI2 := hid hI2
        have HK2 := hid hK2
        have l0 := hC2.lt.1
        have d0 := hC2.c0
        clear hC2 hR2 hI2 hK2 HC1 HR1 HI1 HK1
        by_cases hgx : x < W
        · have e2 : decide ((x : Int) < W) = true := decide_eq_true (by omega)
          have HNO : Hid (¬ (x0 ≤ (x : Int) ∧ (x : Int) - x0 < S ∧ y0 ≤ (y : Int) ∧ (y : Int) - y0 < t) → D x y = false) := fun h => by
            rw [HD.out, Bool.and_eq_false_iff]
            left
            rw [Bool.eq_false_iff]
            intro h'
            apply h
            have := has_iff.1 h'
            dsimp only at this
            omega
          by_cases g1 : (x : Int) < x0
          · have e0 : decide ((x : Int) < x0) = true := decide_eq_true g1
            have hdn := HNO.out (by omega)
            have HE : Hid (trn W (gD x0 y0 S pix) (dR D y x) L = trn W (gD x0 y0 S pix) (dR D y (x + 1 : Nat)) L) := by rw [Hid, dR_none hdn]
            rw [HE.out] at HC2
            clear HE hdn HNO
            go_wp2
            go_roundw
            case rel => exact ⟨x + 1, by go_num, by omega, HC2.out, HR2.out, HI2.out, HK2.out⟩
            case measure => simp [numOf]; omega
          have eg1 : decide ((x : Int) < x0) = false := decide_eq_false g1
          by_cases g2 : (S : Int) ≤ (x : Int) - x0
          · have e0 : decide ((S : Int) ≤ (x : Int) - x0) = true := decide_eq_true g2
            have hdn := HNO.out (by omega)
            have HE : Hid (trn W (gD x0 y0 S pix) (dR D y x) L = trn W (gD x0 y0 S pix) (dR D y (x + 1 : Nat)) L) := by rw [Hid, dR_none hdn]
            rw [HE.out] at HC2
            clear HE hdn HNO
            go_wp2
            go_roundw
            case rel => exact ⟨x + 1, by go_num, by omega, HC2.out, HR2.out, HI2.out, HK2.out⟩
            case measure => simp [numOf]; omega
          have eg2 : decide ((S : Int) ≤ (x : Int) - x0) = false := decide_eq_false g2
          by_cases g3 : (y : Int) < y0
          · have e0 : decide ((y : Int) < y0) = true := decide_eq_true g3
            have hdn := HNO.out (by omega)
            have HE : Hid (trn W (gD x0 y0 S pix) (dR D y x) L = trn W (gD x0 y0 S pix) (dR D y (x + 1 : Nat)) L) := by rw [Hid, dR_none hdn]
            rw [HE.out] at HC2
            clear HE hdn HNO
            go_wp2
            go_roundw
            case rel => exact ⟨x + 1, by go_num, by omega, HC2.out, HR2.out, HI2.out, HK2.out⟩
            case measure => simp [numOf]; omega
          have eg3 : decide ((y : Int) < y0) = false := decide_eq_false g3
          by_cases g4 : t ≤ (y : Int) - y0
          · have e0 : decide (t ≤ (y : Int) - y0) = true := decide_eq_true g4
            have hdn := HNO.out (by omega)
            have HE : Hid (trn W (gD x0 y0 S pix) (dR D y x) L = trn W (gD x0 y0 S pix) (dR D y (x + 1 : Nat)) L) := by rw [Hid, dR_none hdn]
            rw [HE.out] at HC2
            clear HE hdn HNO
            go_wp2
            go_roundw
            case rel => exact ⟨x + 1, by go_num, by omega, HC2.out, HR2.out, HI2.out, HK2.out⟩
            case measure => simp [numOf]; omega
          have eg4 : decide (t ≤ (y : Int) - y0) = false := decide_eq_false g4
          have hh : has ⟨x0, y0, S, t⟩ (x : Int) (y : Int) = true := has_iff.2 (by dsimp only; omega)
          have CI := hid (rin14_any a n c l wr HR2.out x y (by rw [I64]; omega) (by rw [I64]; omega))
          obtain ⟨dy, hdy⟩ : ∃ dy : Nat, (y : Int) - y0 = dy := ⟨((y : Int) - y0).toNat, by omega⟩
          obtain ⟨M, hM⟩ : ∃ M, dy * S = M := ⟨_, rfl⟩
          have hMb : M ≤ 16777300 * 16777216 := by rw [← hM]; exact Nat.mul_le_mul (by omega) (by omega)
          have m1 : ((y : Int) - y0) * (S : Int) = (M : Int) := by rw [hdy, ← hM, Int.natCast_mul]
          obtain ⟨F, hF⟩ : ∃ F : Nat, (M : Int) + x - x0 = F := ⟨((M : Int) + x - x0).toNat, by omega⟩
          have HKK : Hid (kk x0 y0 S (x : Int) y = F) := kk_eq (i := 0) (by rw [m1]; exact hF)
          clear hdy hM
          cases hq : inC l x y
          · have hdn : D x y = false := by
              rw [HD.out]
              show (_ && inC l x y) = false
              rw [hq, Bool.and_false]
            have HE : Hid (trn W (gD x0 y0 S pix) (dR D y x) L = trn W (gD x0 y0 S pix) (dR D y (x + 1 : Nat)) L) := by rw [Hid, dR_none hdn]
            rw [HE.out] at HC2
            rw [hq] at CI
            clear HE hdn HNO hF m1
            go_wp2_with fail
            refine CI.out.mono ?_
            rintro e w3 ⟨rfl, hb3⟩
            have HC3 := hid (HC2.out.on hb3)
            have HR3 := hid (HR2.out.on hb3)
            have HI3 := hid (HI2.out.on hb3)
            have HK3 := hid (HK2.out.trans (kp_of_below hb3 []) (by simp))
            clear hb3 l0 d0 HC2 HR2 HI2 HK2
            go_wp2
            go_roundw
            case rel => exact ⟨x + 1, by go_num, by omega, HC3.out, HR3.out, HI3.out, HK3.out⟩
            case measure => simp [numOf]; omega
          · have hdy' : D x y = true := by
              rw [HD.out]
              show (has ⟨x0, y0, S, t⟩ (x : Int) (y : Int) && inC l x y) = true
              rw [hq, hh]
              rfl
            rw [hq] at CI
            clear HNO
            go_wp2_with fail
            refine CI.out.mono ?_
            rintro e w3 ⟨rfl, hb3⟩
            have hC3 := HC2.out.on hb3
            have HR3 := hid (HR2.out.on hb3)
            have HI3 := hid (HI2.out.on hb3)
            have HK3 := hid (HK2.out.trans (kp_of_below hb3 []) (by simp))
            obtain ⟨z, hz, hzc⟩ := hC3.at_ hgx hgy
            have c0 := hC3.cell hz
            have fz := hC3.fz (y * W + x)
            rw [dR_val hgx] at hz
            clear hb3 l0 d0 HC2 HR2 HI2 HK2 CI
            by_cases hgo : F < m
            · have f1 : decide ((F : Int) < m) = true := decide_eq_true (by omega)
              obtain ⟨o', ho'⟩ : ∃ o', pix[F]? = some o' := ⟨_, List.getElem?_eq_getElem (by omega)⟩
              have hoc : Col o' := HPC.out o' (List.mem_of_getElem? ho')
              have HG : Hid (ovr z o' = gD x0 y0 S pix x y z) := by rw [Hid, gD, HKK.out, ho']
              have HP := hid (hC3.put hgx hgy hdy' hz HG.out (ovr_bd _ _))
              have HNX : Hid (∀ i z, w3.cell? ⟨b, i, none⟩ ≠ some (.int .i64 z)) := fun i z h => hC3.no64 h
              obtain ⟨b', off, rfl, hbl, hcells⟩ := HI3.out.plain (by omega)
              have hb'b : b' ≠ b := by simpa using HAB.out (by omega) _ rfl
              have cp := hcells F (by omega)
              rw [List.getD, ho'] at cp
              dsimp only [Option.getD] at cp
              have HV : Hid (Vr w3 p b W N H) := by
                have := hC3.var
                rw [HNN.out] at this
                exact this
              obtain ⟨o, ho⟩ : ∃ o, y * W = o := ⟨_, rfl⟩
              have hon : o + x < N := by rw [← ho, ← HNN.out]; exact place_lt hgx hgy
              have m3 : (y : Int) * (W : Int) = (o : Int) := by rw [← ho, Int.natCast_mul]
              obtain ⟨Z, hZ⟩ : ∃ Z, o + x = Z := ⟨_, rfl⟩
              have k1 : IntKind.i64.wrap (o : Int) = (o : Int) := by
                rw [IntKind.wrap_i64]
                omega
              have k2 : IntKind.i64.wrap ((o : Int) + (x : Int)) = (Z : Int) := by
                rw [IntKind.wrap_i64]
                omega
              have k3 : Z < N := by omega
              have k4 : F < m := hgo
              have l3 := hC3.lt.1
              rw [ho, hZ] at c0 fz HP
              have CO := hid (fun u => rover_any z o' hzc hoc u)
              clear hC3 hz ho hZ hon hcells hh hdy' HG
              go_wp2
              refine wp_region_held_drew (S := fun x => Vr x p b W N H ∧ x.cell? ⟨b', off + F, none⟩ = some (.int .u32 o')) (by kernel_rfl) ?hh (fun hHeld => ?_)
              case hh => exact (⟨HV.out, cp⟩)
              refine wpAnyH_take (i := 0) (v := ?_) rfl (by kernel_rfl) (by kernel_rfl) (by kernel_rfl) (fun _ _ _ h => h) (Or.inl ⟨by kernel_rfl, ?hy0⟩) (by assumption) ?_
              case hy0 => (intro w hSw; (try dsimp only at hSw); obtain ⟨tv, tp⟩ := hSw; have t0 := tv.c0; have t2 := tv.c2; go_simp; try with_reducible rfl)
              try simp only [Act.put, List.getElem_toArray, List.getElem_cons_zero, List.setIfInBounds_toArray, List.set_cons_zero, List.set_cons_succ]
              refine wpAnyH_take (i := 1) (v := ?_) rfl (by kernel_rfl) (by kernel_rfl) (by kernel_rfl) (fun _ _ _ h => h) (Or.inl ⟨by kernel_rfl, ?hy1⟩) (by assumption) ?_
              case hy1 => (intro w hSw; (try dsimp only at hSw); obtain ⟨tv, tp⟩ := hSw; have t0 := tv.c0; have t2 := tv.c2; go_simp; try with_reducible rfl)
              try simp only [Act.put, List.getElem_toArray, List.getElem_cons_zero, List.getElem_cons_succ, List.setIfInBounds_toArray, List.set_cons_zero, List.set_cons_succ]
              refine wpAnyH_take (i := 2) (v := ?_) rfl (by kernel_rfl) (by kernel_rfl) (by kernel_rfl) (fun _ _ _ h => h) (Or.inl ⟨by kernel_rfl, ?hy2⟩) (by assumption) ?_
              case hy2 => (intro w hSw; (try dsimp only at hSw); obtain ⟨tv, tp⟩ := hSw; have t0 := tv.c0; have t2 := tv.c2; go_simp; try with_reducible rfl)
              try simp only [Act.put, List.getElem_toArray, List.getElem_cons_zero, List.getElem_cons_succ, List.setIfInBounds_toArray, List.set_cons_zero, List.set_cons_succ]
              refine wpAnyH_take (i := 3) (v := ?_) rfl (by kernel_rfl) (by kernel_rfl) (by kernel_rfl) (fun _ _ _ h => h) (Or.inl ⟨by kernel_rfl, ?hy3⟩) (by assumption) ?_
              case hy3 => (intro w hSw; (try dsimp only at hSw); obtain ⟨tv, tp⟩ := hSw; have t0 := tv.c0; have t2 := tv.c2; go_simp; try with_reducible rfl)
              try simp only [Act.put, List.getElem_toArray, List.getElem_cons_zero, List.getElem_cons_succ, List.setIfInBounds_toArray, List.set_cons_zero, List.set_cons_succ]
              refine wpAnyH_take (i := 4) (v := ?_) rfl (by kernel_rfl) (by kernel_rfl) (by kernel_rfl) (fun _ _ _ h => h) (Or.inl ⟨by kernel_rfl, ?hy4⟩) (by assumption) ?_
              case hy4 => (intro w hSw; (try dsimp only at hSw); obtain ⟨tv, tp⟩ := hSw; have t0 := tv.c0; have t2 := tv.c2; go_simp; try with_reducible rfl)
              try simp only [Act.put, List.getElem_toArray, List.getElem_cons_zero, List.getElem_cons_succ, List.setIfInBounds_toArray, List.set_cons_zero, List.set_cons_succ]
              refine wpAnyH_take (i := 5) (v := ?_) rfl (by kernel_rfl) (by kernel_rfl) (by kernel_rfl) (fun _ _ _ h => h) (Or.inl ⟨by kernel_rfl, ?hy5⟩) (by assumption) ?_
              case hy5 => (intro w hSw; (try dsimp only at hSw); obtain ⟨tv, tp⟩ := hSw; have t0 := tv.c0; have t2 := tv.c2; go_simp; try with_reducible rfl)
              try simp only [Act.put, List.getElem_toArray, List.getElem_cons_zero, List.getElem_cons_succ, List.setIfInBounds_toArray, List.set_cons_zero, List.set_cons_succ]
              refine wpAnyH_take (i := 6) (v := ?_) rfl (by kernel_rfl) (by kernel_rfl) (by kernel_rfl) (fun _ _ _ h => h) (Or.inl ⟨by kernel_rfl, ?hy6⟩) (by assumption) ?_
              case hy6 => (intro w hSw; (try dsimp only at hSw); obtain ⟨tv, tp⟩ := hSw; have t0 := tv.c0; have t2 := tv.c2; go_simp; try with_reducible rfl)
              try simp only [Act.put, List.getElem_toArray, List.getElem_cons_zero, List.getElem_cons_succ, List.setIfInBounds_toArray, List.set_cons_zero, List.set_cons_succ]
              refine wpAnyH_take (i := 7) (v := ?_) rfl (by kernel_rfl) (by kernel_rfl) (by kernel_rfl) (fun _ _ _ h => h) (Or.inl ⟨by kernel_rfl, ?hy7⟩) (by assumption) ?_
              case hy7 => (intro w hSw; (try dsimp only at hSw); obtain ⟨tv, tp⟩ := hSw; have t0 := tv.c0; have t2 := tv.c2; go_simp; try with_reducible rfl)
              try simp only [Act.put, List.getElem_toArray, List.getElem_cons_zero, List.getElem_cons_succ, List.setIfInBounds_toArray, List.set_cons_zero, List.set_cons_succ]
              refine wpAnyH_take (i := 8) (v := ?_) rfl (by kernel_rfl) (by kernel_rfl) (by kernel_rfl) (fun _ _ _ h => h) (Or.inl ⟨by kernel_rfl, ?hy8⟩) (by assumption) ?_
              case hy8 => (intro w hSw; (try dsimp only at hSw); obtain ⟨tv, tp⟩ := hSw; have t0 := tv.c0; have t2 := tv.c2; go_simp; try with_reducible rfl)
              try simp only [Act.put, List.getElem_toArray, List.getElem_cons_zero, List.getElem_cons_succ, List.setIfInBounds_toArray, List.set_cons_zero, List.set_cons_succ]
              refine wpAnyH_take (i := 9) (v := ?_) rfl (by kernel_rfl) (by kernel_rfl) (by kernel_rfl) (fun _ _ _ h => h) (Or.inl ⟨by kernel_rfl, ?hy9⟩) (by assumption) ?_
              case hy9 => (intro w hSw; (try dsimp only at hSw); obtain ⟨tv, tp⟩ := hSw; have t0 := tv.c0; have t2 := tv.c2; go_simp; try with_reducible rfl)
              try simp only [Act.put, List.getElem_toArray, List.getElem_cons_zero, List.getElem_cons_succ, List.setIfInBounds_toArray, List.set_cons_zero, List.set_cons_succ]
              refine wpAnyH_take (i := 10) (v := ?_) rfl (by kernel_rfl) (by kernel_rfl) (by kernel_rfl) (fun _ _ _ h => h) (Or.inl ⟨by kernel_rfl, ?hy10⟩) (by assumption) ?_
              case hy10 => (intro w hSw; (try dsimp only at hSw); obtain ⟨tv, tp⟩ := hSw; have t0 := tv.c0; have t2 := tv.c2; go_simp; try with_reducible rfl)
              try simp only [Act.put, List.getElem_toArray, List.getElem_cons_zero, List.getElem_cons_succ, List.setIfInBounds_toArray, List.set_cons_zero, List.set_cons_succ]
              refine wpAnyH_take (i := 11) (v := ?_) rfl (by kernel_rfl) (by kernel_rfl) (by kernel_rfl) (fun _ _ _ h => h) (Or.inl ⟨by kernel_rfl, ?hy11⟩) (by assumption) ?_
              case hy11 => (intro w hSw; (try dsimp only at hSw); obtain ⟨tv, tp⟩ := hSw; have t0 := tv.c0; have t2 := tv.c2; go_simp; try with_reducible rfl)
              try simp only [Act.put, List.getElem_toArray, List.getElem_cons_zero, List.getElem_cons_succ, List.setIfInBounds_toArray, List.set_cons_zero, List.set_cons_succ]
              refine wpAnyH_take (i := 12) (v := ?_) rfl (by kernel_rfl) (by kernel_rfl) (by kernel_rfl) (fun _ _ _ h => h) (Or.inl ⟨by kernel_rfl, ?hy12⟩) (by assumption) ?_
              case hy12 => (intro w hSw; (try dsimp only at hSw); obtain ⟨tv, tp⟩ := hSw; have t0 := tv.c0; have t2 := tv.c2; go_simp; try with_reducible rfl)
              try simp only [Act.put, List.getElem_toArray, List.getElem_cons_zero, List.getElem_cons_succ, List.setIfInBounds_toArray, List.set_cons_zero, List.set_cons_succ]
              refine wpAnyH_take (i := 13) (v := ?_) rfl (by kernel_rfl) (by kernel_rfl) (by kernel_rfl) (fun _ _ _ h => h) (Or.inl ⟨by kernel_rfl, ?hy13⟩) (by assumption) ?_
              case hy13 => (intro w hSw; (try dsimp only at hSw); obtain ⟨tv, tp⟩ := hSw; have t0 := tv.c0; have t2 := tv.c2; go_simp; try with_reducible rfl)
              try simp only [Act.put, List.getElem_toArray, List.getElem_cons_zero, List.getElem_cons_succ, List.setIfInBounds_toArray, List.set_cons_zero, List.set_cons_succ]
              refine wpAnyH_take (i := 14) (v := ?_) rfl (by kernel_rfl) (by kernel_rfl) (by kernel_rfl) (fun _ _ _ h => h) (Or.inl ⟨by kernel_rfl, ?hy14⟩) (by assumption) ?_
              case hy14 => (intro w hSw; (try dsimp only at hSw); obtain ⟨tv, tp⟩ := hSw; have t0 := tv.c0; have t2 := tv.c2; go_simp; try with_reducible rfl)
              try simp only [Act.put, List.getElem_toArray, List.getElem_cons_zero, List.getElem_cons_succ, List.setIfInBounds_toArray, List.set_cons_zero, List.set_cons_succ]
              refine wpAnyH_take (i := 15) (v := ?_) rfl (by kernel_rfl) (by kernel_rfl) (by kernel_rfl) (fun _ _ _ h => h) (Or.inl ⟨by kernel_rfl, ?hy15⟩) (by assumption) ?_
              case hy15 => (intro w hSw; (try dsimp only at hSw); obtain ⟨tv, tp⟩ := hSw; have t0 := tv.c0; have t2 := tv.c2; go_simp; try with_reducible rfl)
              try simp only [Act.put, List.getElem_toArray, List.getElem_cons_zero, List.getElem_cons_succ, List.setIfInBounds_toArray, List.set_cons_zero, List.set_cons_succ]
              refine wpAnyH_take (i := 16) (v := ?_) rfl (by kernel_rfl) (by kernel_rfl) (by kernel_rfl) (fun _ _ _ h => h) (Or.inl ⟨by kernel_rfl, ?hy16⟩) (by assumption) ?_
              case hy16 => (intro w hSw; (try dsimp only at hSw); obtain ⟨tv, tp⟩ := hSw; have t0 := tv.c0; have t2 := tv.c2; go_simp; try with_reducible rfl)
              try simp only [Act.put, List.getElem_toArray, List.getElem_cons_zero, List.getElem_cons_succ, List.setIfInBounds_toArray, List.set_cons_zero, List.set_cons_succ]
              refine wpAnyH_take (i := 17) (v := ?_) rfl (by kernel_rfl) (by kernel_rfl) (by kernel_rfl) (fun _ _ _ h => h) (Or.inl ⟨by kernel_rfl, ?hy17⟩) (by assumption) ?_
              case hy17 => (intro w hSw; (try dsimp only at hSw); obtain ⟨tv, tp⟩ := hSw; have t0 := tv.c0; have t2 := tv.c2; go_simp; try with_reducible rfl)
              try simp only [Act.put, List.getElem_toArray, List.getElem_cons_zero, List.getElem_cons_succ, List.setIfInBounds_toArray, List.set_cons_zero, List.set_cons_succ]
              refine wpAnyH_take (i := 18) (v := ?_) rfl (by kernel_rfl) (by kernel_rfl) (by kernel_rfl) (fun _ _ _ h => h) (Or.inl ⟨by kernel_rfl, ?hy18⟩) (by assumption) ?_
              case hy18 => (intro w hSw; (try dsimp only at hSw); obtain ⟨tv, tp⟩ := hSw; have t0 := tv.c0; have t2 := tv.c2; go_simp; try with_reducible rfl)
              try simp only [Act.put, List.getElem_toArray, List.getElem_cons_zero, List.getElem_cons_succ, List.setIfInBounds_toArray, List.set_cons_zero, List.set_cons_succ]
              refine wpAnyH_take (i := 19) (v := ?_) rfl (by kernel_rfl) (by kernel_rfl) (by kernel_rfl) (fun _ _ _ h => h) (Or.inl ⟨by kernel_rfl, ?hy19⟩) (by assumption) ?_
              case hy19 => (intro w hSw; (try dsimp only at hSw); obtain ⟨tv, tp⟩ := hSw; have t0 := tv.c0; have t2 := tv.c2; go_simp; try with_reducible rfl)
              try simp only [Act.put, List.getElem_toArray, List.getElem_cons_zero, List.getElem_cons_succ, List.setIfInBounds_toArray, List.set_cons_zero, List.set_cons_succ]
              refine wpAnyH_take (i := 20) (v := ?_) rfl (by kernel_rfl) (by kernel_rfl) (by kernel_rfl) (fun _ _ _ h => h) (Or.inl ⟨by kernel_rfl, ?hy20⟩) (by assumption) ?_
              case hy20 => (intro w hSw; (try dsimp only at hSw); obtain ⟨tv, tp⟩ := hSw; have t0 := tv.c0; have t2 := tv.c2; go_simp; try with_reducible rfl)
              try simp only [Act.put, List.getElem_toArray, List.getElem_cons_zero, List.getElem_cons_succ, List.setIfInBounds_toArray, List.set_cons_zero, List.set_cons_succ]
              refine wpAnyH_take (i := 21) (v := ?_) rfl (by kernel_rfl) (by kernel_rfl) (by kernel_rfl) (fun _ _ _ h => h) (Or.inl ⟨by kernel_rfl, ?hy21⟩) (by assumption) ?_
              case hy21 => (intro w hSw; (try dsimp only at hSw); obtain ⟨tv, tp⟩ := hSw; have t0 := tv.c0; have t2 := tv.c2; go_simp; try with_reducible rfl)
              try simp only [Act.put, List.getElem_toArray, List.getElem_cons_zero, List.getElem_cons_succ, List.setIfInBounds_toArray, List.set_cons_zero, List.set_cons_succ]
              refine wpAnyH_take (i := 22) (v := ?_) rfl (by kernel_rfl) (by kernel_rfl) (by kernel_rfl) (fun _ _ _ h => h) (Or.inl ⟨by kernel_rfl, ?hy22⟩) (by assumption) ?_
              case hy22 => (intro w hSw; (try dsimp only at hSw); obtain ⟨tv, tp⟩ := hSw; have t0 := tv.c0; have t2 := tv.c2; go_simp; try with_reducible rfl)
              try simp only [Act.put, List.getElem_toArray, List.getElem_cons_zero, List.getElem_cons_succ, List.setIfInBounds_toArray, List.set_cons_zero, List.set_cons_succ]
              refine wpAnyH_take (i := 23) (v := ?_) rfl (by kernel_rfl) (by kernel_rfl) (by kernel_rfl) (fun _ _ _ h => h) (Or.inl ⟨by kernel_rfl, ?hy23⟩) (by assumption) ?_
              case hy23 => (intro w hSw; (try dsimp only at hSw); obtain ⟨tv, tp⟩ := hSw; have t0 := tv.c0; have t2 := tv.c2; go_simp; try with_reducible rfl)
              try simp only [Act.put, List.getElem_toArray, List.getElem_cons_zero, List.getElem_cons_succ, List.setIfInBounds_toArray, List.set_cons_zero, List.set_cons_succ]
              refine wpAnyH_take (i := 24) (v := ?_) rfl (by kernel_rfl) (by kernel_rfl) (by kernel_rfl) (fun _ _ _ h => h) (Or.inl ⟨by kernel_rfl, ?hy24⟩) (by assumption) ?_
              case hy24 => (intro w hSw; (try dsimp only at hSw); obtain ⟨tv, tp⟩ := hSw; have t0 := tv.c0; have t2 := tv.c2; go_simp; try with_reducible rfl)
              try simp only [Act.put, List.getElem_toArray, List.getElem_cons_zero, List.getElem_cons_succ, List.setIfInBounds_toArray, List.set_cons_zero, List.set_cons_succ]
              refine wpAnyH_take (i := 26) (v := ?_) rfl (by kernel_rfl) (by kernel_rfl) (by kernel_rfl) (fun _ _ _ h => h) (Or.inl ⟨by kernel_rfl, ?hy26⟩) (by assumption) ?_
              case hy26 => (intro w hSw; (try dsimp only at hSw); obtain ⟨tv, tp⟩ := hSw; have t0 := tv.c0; have t2 := tv.c2; go_simp; try with_reducible rfl)
              try simp only [Act.put, List.getElem_toArray, List.getElem_cons_zero, List.getElem_cons_succ, List.setIfInBounds_toArray, List.set_cons_zero, List.set_cons_succ]
              refine wpAnyH_take (i := 27) (v := ?_) rfl (by kernel_rfl) (by kernel_rfl) (by kernel_rfl) (fun _ _ _ h => h) (Or.inl ⟨by kernel_rfl, ?hy27⟩) (by assumption) ?_
              case hy27 => (intro w hSw; (try dsimp only at hSw); obtain ⟨tv, tp⟩ := hSw; have t0 := tv.c0; have t2 := tv.c2; go_simp; try with_reducible rfl)
              try simp only [Act.put, List.getElem_toArray, List.getElem_cons_zero, List.getElem_cons_succ, List.setIfInBounds_toArray, List.set_cons_zero, List.set_cons_succ]
              refine wpAnyH_take (i := 28) (v := ?_) rfl (by kernel_rfl) (by kernel_rfl) (by kernel_rfl) (fun _ _ _ h => h) (Or.inl ⟨by kernel_rfl, ?hy28⟩) (by assumption) ?_
              case hy28 => (intro w hSw; (try dsimp only at hSw); obtain ⟨tv, tp⟩ := hSw; have t0 := tv.c0; have t2 := tv.c2; go_simp; try with_reducible rfl)
              try simp only [Act.put, List.getElem_toArray, List.getElem_cons_zero, List.getElem_cons_succ, List.setIfInBounds_toArray, List.set_cons_zero, List.set_cons_succ]
              refine wpAnyH_take (i := 29) (v := ?_) rfl (by kernel_rfl) (by kernel_rfl) (by kernel_rfl) (fun _ _ _ h => h) (Or.inl ⟨by kernel_rfl, ?hy29⟩) (by assumption) ?_
              case hy29 => (intro w hSw; (try dsimp only at hSw); obtain ⟨tv, tp⟩ := hSw; have t0 := tv.c0; have t2 := tv.c2; go_simp; try with_reducible rfl)
              try simp only [Act.put, List.getElem_toArray, List.getElem_cons_zero, List.getElem_cons_succ, List.setIfInBounds_toArray, List.set_cons_zero, List.set_cons_succ]
              refine wpAnyH_ready (rs := [25]) (by kernel_rfl) (by simp) ?_
              refine AllReadyH.cons rfl (fun K hK => ?_) AllReadyH.nil
              go_simp
              refine hK.out _ _ hHeld (fun _ => ?_)
              clear hK K
              refine wpAnyH_ready (rs := [30]) (by kernel_rfl) (by simp) ?_
              refine AllReadyH.cons rfl (fun K hK => ?_) AllReadyH.nil
              go_simp
              go_wp2_with fail
              refine (CO.out _).mono ?_
              rintro e u230 ⟨rfl, rfl⟩
              refine hK.out _ _ hHeld (fun _ => ?_)
              clear hK K
              refine wpAnyH_take (i := 31) (v := ?_) rfl (by kernel_rfl) (by kernel_rfl) (by kernel_rfl) (fun _ _ _ h => h) (Or.inl ⟨by kernel_rfl, ?hy31⟩) (by assumption) ?_
              case hy31 => (intro w hSw; (try dsimp only at hSw); obtain ⟨tv, tp⟩ := hSw; have t0 := tv.c0; have t2 := tv.c2; go_simp; try with_reducible rfl)
              try simp only [Act.put, List.getElem_toArray, List.getElem_cons_zero, List.getElem_cons_succ, List.setIfInBounds_toArray, List.set_cons_zero, List.set_cons_succ]
              refine wpAnyH_ready (rs := [32]) (by kernel_rfl) (by simp) ?_
              refine AllReadyH.cons rfl (fun K hK => ?_) AllReadyH.nil
              go_simp
              refine hK.out _ _ ⟨hHeld.1.set ne _ _, (World.cell?_setCell_far w3 ⟨b, Z, none⟩ ⟨b', off + F, none⟩ _ (Ne.symm hb'b)).trans cp⟩ (fun _ => ?_)
              clear hK K
              refine wpAnyH_done (by kernel_rfl) ?_ _
              obtain ⟨U, HU⟩ : ∃ U, Hid (U = w3.setCell ⟨b, Z, none⟩ (.int .u32 (ovr z o'))) := ⟨_, rfl⟩
              have hk4 : Kp [b] w3 U := by rw [HU.out]; exact (Kp.refl [b] w3).set _ (by simp) _
              rw [← HU.out] at HP
              have HDr := hid (below_drewN (Below.refl U.heap.size U) 1)
              have HC4 := hid (HP.out.on HDr.out)
              have HR4 := hid ((HR3.out.kept hk4 HNX.out).on HDr.out)
              have HI4 := hid ((HI3.out.kept hk4 HAB.out).on HDr.out)
              have HK4 := hid ((HK3.out.trans hk4 (fun k hk _ => hk)).trans (kp_of_below HDr.out []) (by simp))
              rw [HU.out] at HC4 HR4 HI4 HK4
              clear HU hk4 HP HDr HR3 HI3 HK3 hHeld HNX
              go_wp2
              go_roundw
              case rel => exact ⟨x + 1, by go_num, by omega, HC4.out, HR4.out, HI4.out, HK4.out⟩
              case measure => simp [numOf]; omega
            · have f1 : decide ((F : Int) < m) = false := decide_eq_false (by omega)
              have HG : Hid (gD x0 y0 S pix x y z = z) := by rw [Hid, gD, HKK.out, List.getElem?_eq_none (by omega)]
              rw [dR_same HL.out hgx hz HG.out] at hC3
              have HC4 := hid hC3
              clear hC3 c0 fz hz HG
              go_wp2
              go_roundw
              case rel => exact ⟨x + 1, by go_num, by omega, HC4.out, HR3.out, HI3.out, HK3.out⟩
              case measure => simp [numOf]; omega
        · have e2 : decide ((x : Int) < W) = false := decide_eq_false (by omega)
          obtain rfl : x = W := by omega
          have HC3 := HC2
          rw [dR_row HL.out] at HC3
          clear HC2
          go_wp2
          go_roundw
          case rel => exact ⟨y + 1, by go_num, by omega, HC3.out, HR2.out, HI2.out, HK2.out⟩
          case measure => simp [numOf]; omega
    · have e1 : decide ((y : Int) < H) = false := decide_eq_false (by omega)
      obtain rfl : y = H := by omega
      have HC3 := HC1
      rw [dR_end HL.out] at HC3
      clear HC1
      go_wp2
      go_end0
      exact ⟨rfl, HC3.out, HK1.out⟩
end Go.Proofs.YtldnggokkkhihaaDoor
