/- RepaintParts: for every colour, views, images and clip the call returns true; nothing that was there has turned. Laid by repaint/lay.sh (PRINT: the great seat's). -/
import Derived.Test.YtlkodgmnhphfcaaGreatDoorBh
import Derived.Test.YtlkodgmnhphfcaaGreatDoorBk
import Derived.Test.YtlkodgmnhphfcaaGreatDoorBb
import Derived.LaidMore
namespace Go.Proofs.YtlkodgmnhphfcaaGreatDoor.repaintParts
open Go Go.RowKit

theorem wfu {z : Int} (h : (Lit.int .u32 z).wf = true) : Col z := by
  simp [Lit.wf, IntKind.min, IntKind.max, IntKind.signed, IntKind.bits] at h
  unfold Col
  omega

set_option maxRecDepth 100000 in
set_option maxHeartbeats 4000000 in
theorem walk (a0 : Int) (a1 : Option Addr) (n1 c1 : Nat) (l1 : List (List Int)) (a2 : Option Addr) (n2 c2 : Nat) (l2 : List (List Int)) (a3 : Option Addr) (n3 c3 : Nat) (l3 : List Gv) (a4 : Option Addr) (n4 c4 : Nat) (l4 : List (List Int)) (w : World) (w0 : (Lit.int .u32 a0).wf = true) (w1 : RdN 6 w a1 n1 c1 l1) (w2 : RdN 6 w a2 n2 c2 l2) (w3 : RdG w a3 n3 c3 l3) (w4 : RdN 4 w a4 n4 c4 l4) (_hL : laidMetH Tryz.prog Rows.repaintPartsRow.laid w) :
    Calls Tryz.prog 3 #[.int .u32 a0, .slice a1 n1 c1, .slice a2 n2 c2, .slice a3 n3 c3, .slice a4 n4 c4] w fun e w' => e = .returned (.bool true) ∧ Below w.heap.size w w' := by
  have hc := wfu w0
  obtain ⟨k0, hk0⟩ : ∃ k, IntKind.u32.wrap (a0 + 1) = k := ⟨_, rfl⟩
  have hc1 : Col k0 := by
    rw [← hk0]
    simp only [IntKind.wrap, IntKind.signed, IntKind.bits]
    unfold Col
    have h1 := Int.emod_nonneg (a0 + 1) (b := 4294967296) (by decide)
    have h2 := Int.emod_lt_of_pos (a0 + 1) (b := 4294967296) (by decide)
    simp
    omega
  have HA := hid (rdm_of_rdn (by omega) w1)
  have HZ := hid (rdm_of_rdn (by omega) w2)
  have HAI : Hid (∀ y ∈ l1, ∀ z ∈ y, I64 z) := fun y hy z hz => i64_wf (w1.wf y hy z hz)
  have HZI : Hid (∀ y ∈ l2, ∀ z ∈ y, I64 z) := fun y hy z hz => i64_wf (w2.wf y hy z hz)
  have h1 := HA.out.small
  have h2 := HZ.out.small
  have HG := hid w3
  have HC := hid (rdc_of_rdn w4)
  have h4 := HC.out.small
  obtain ⟨cl, hcl⟩ : ∃ cl, (List.range n4).map (rcOf l4) = cl := ⟨_, rfl⟩
  rw [hcl] at HC
  have HCL := hid HC.out.len
  obtain ⟨ok, hok⟩ : ∃ ok, imOk l3 = ok := ⟨_, rfl⟩
  have HOK := hid hok
  have CI := hid (images_any a3 n3 c3 l3 w w3)
  obtain ⟨W, hW⟩ : ∃ W, (11 : Nat) = W := ⟨_, rfl⟩
  obtain ⟨H, hH⟩ : ∃ H, (8 : Nat) = H := ⟨_, rfl⟩
  have eW : (W : Int) = 11 := by omega
  have eH : (H : Int) = 8 := by omega
  have hW1 : 1 ≤ W ∧ W ≤ 48 := by omega
  have hH1 : 1 ≤ H ∧ H ≤ 48 := by omega
  have CW : Hid (∀ u, Calls Tryz.prog 7 #[.int .i64 11, .int .i64 8] u (Own 63 u W H (List.replicate (W * H) 0) fun v => .tuple #[v, .nilIface])) := fun u => by
    have := cnew_any u W H hW1 hH1
    rwa [eW, eH] at this
  have CR : Hid (∀ u, Calls Tryz.prog 8 #[.int .i64 11, .int .i64 8] u (Own 46 u W H (List.replicate (W * H) 0) fun v => v)) := fun u => by
    have := rnew_any u W H hW1 hH1
    rwa [eW, eH] at this
  obtain ⟨N, hN⟩ : ∃ N, W * H = N := ⟨_, rfl⟩
  have HN := hid hN
  have hNs : N ≤ 2304 := by rw [← hN]; exact Nat.mul_le_mul hW1.2 hH1.2
  clear w0 w1 w2 w3 w4 _hL hok hW hH hN hcl eW eH
  go_enter Tryz.func3, Tryz.ntmps3
  go_wp2_with fail
  refine CI.out.mono ?_
  rintro e x1 ⟨v, rfl, hb1, hyes⟩
  rw [HOK.out] at hyes ⊢
  have HB1 := hid hb1
  have HY := hid hyes
  clear hb1 hyes CI
  go_wp2_with fail
  refine (CW.out x1).mono ?_
  rintro e x3 ⟨p, b, rfl, hb3, hC, hp, hb⟩
  have HB3 := hid hb3
  have HCV := hid hC
  have l1' := hC.lt
  clear hb3 hC CW
  go_wp2_with fail
  refine (CR.out x3).mono ?_
  rintro e x4 ⟨q, d, rfl, hb4, hD, hq, hd⟩
  have hs2 := HB1.out.size
  have hs3 := HB3.out.size
  have hs4 := hb4.size
  have HB : Hid (Bo w x4 p b q d W H (List.replicate (W * H) 0) (List.replicate (W * H) 0)) := ⟨HCV.out.on hb4, hD, by omega, by omega, by omega, by omega, by omega, Below.on (Below.on HB1.out HB3.out) hb4⟩
  have HB14 := hid (Below.on HB3.out hb4)
  clear hb4 hD HCV HB3 CR
  cases ok
  · clear HY HA HZ HAI HZI HG HC
    go_wp2_with fail
    refine (qawake24_any _).mono ?_
    rintro e x5 ⟨rfl, hb5⟩
    have HB5 := hid (HB.out.on hb5)
    go_wp2
    go_ret
    exact ⟨rfl, HB5.out.bel⟩
  obtain ⟨ai, ni, ci, hs, rfl, hGi, hEi, hNi⟩ := HY.out rfl
  have HGI := hid hGi
  have HEI := hid hEi
  have HNI := hid hNi
  clear hGi hEi hNi HY
  by_cases g1 : 8 < n1
  · have e1 : decide ((8 : Int) < n1) = true := decide_eq_true (by omega)
    clear HA HZ HAI HZI HG HC HGI HEI HNI
    go_wp2_with fail
    refine (qawake24_any _).mono ?_
    rintro e x5 ⟨rfl, hb5⟩
    have HB5 := hid (HB.out.on hb5)
    go_wp2
    go_ret
    exact ⟨rfl, HB5.out.bel⟩
  have e1 : decide ((8 : Int) < n1) = false := decide_eq_false (by omega)
  by_cases g2 : 8 < n2
  · have e2 : decide ((8 : Int) < n2) = true := decide_eq_true (by omega)
    clear HA HZ HAI HZI HG HC HGI HEI HNI
    go_wp2_with fail
    refine (qawake24_any _).mono ?_
    rintro e x5 ⟨rfl, hb5⟩
    have HB5 := hid (HB.out.on hb5)
    go_wp2
    go_ret
    exact ⟨rfl, HB5.out.bel⟩
  have e2 : decide ((8 : Int) < n2) = false := decide_eq_false (by omega)
  by_cases g4 : 6 < n4
  · have e4 : decide ((6 : Int) < n4) = true := decide_eq_true (by omega)
    clear HA HZ HAI HZI HG HC HGI HEI HNI
    go_wp2_with fail
    refine (qawake24_any _).mono ?_
    rintro e x5 ⟨rfl, hb5⟩
    have HB5 := hid (HB.out.on hb5)
    go_wp2
    go_ret
    exact ⟨rfl, HB5.out.bel⟩
  have e4 : decide ((6 : Int) < n4) = false := decide_eq_false (by omega)
  have HAF : Hid (0 < n1 → ∀ x, a1 = some x → x.block < w.heap.size) := fun hn x hx => by
    obtain ⟨bb, oo, e3, h4, _⟩ := HA.out.pl hn
    rw [hx] at e3
    cases e3
    exact h4
  have HZF : Hid (0 < n2 → ∀ x, a2 = some x → x.block < w.heap.size) := fun hn x hx => by
    obtain ⟨bb, oo, e3, h4, _⟩ := HZ.out.pl hn
    rw [hx] at e3
    cases e3
    exact h4
  go_wp2_with fail
  refine (pall_any HB.out.cv a0 hc a1 n1 c1 l1 (HA.out.on HB.out.bel) HAI.out (fun hn x hx => by have := HAF.out hn x hx; omega) ai ni ci hs (HGI.out.on HB14.out) (HGI.out.low (fun k hk => by simp only [List.mem_cons, List.not_mem_nil, or_false] at hk; omega)) HNI.out).mono ?_
  rintro e x6 ⟨rfl, hC6, hk6⟩
  have HB6 := hid (HB.out.one hk6 hC6)
  have HB16 := hid (bel_kp HB14.out hk6 HB14.out.size (fun k hk => by simp only [List.mem_cons, List.not_mem_nil, or_false] at hk; omega))
  clear hC6 hk6 HB HB14
  go_wp2_with fail
  refine (reverywhere_any x6).mono ?_
  rintro e x7 ⟨⟨ae, rfl, hae, hRe⟩, hb7⟩
  have HB7 := hid (HB6.out.on hb7)
  have HB17 := hid (Below.on HB16.out hb7)
  have HRe := hid hRe
  clear hRe hb7 HB6 HB16
  go_wp2_with fail
  refine (rpart_any HB7.out.dv a0 hc a1 n1 c1 l1 (HA.out.on HB7.out.bel) HAI.out (fun hn x hx => by have := HAF.out hn x hx; omega) a3 n3 c3 l3 (HG.out.on HB7.out.bel) (HG.out.low (fun k hk => by simp only [List.mem_cons, List.not_mem_nil, or_false] at hk; omega)) (imOk_le HOK.out) _ 1 1 [evr] HRe.out).mono ?_
  rintro e x8 ⟨rfl, hC8, hk8⟩
  have HB8 := hid (HB7.out.two hk8 hC8)
  have HB18 := hid (bel_kp HB17.out hk8 HB17.out.size (fun k hk => by simp only [List.mem_cons, List.not_mem_nil, or_false] at hk; omega))
  clear hC8 hk8 HB7 HRe HB17
  obtain ⟨L, hL⟩ : ∃ L, pnc W a0 [ara W H] l1 (hs.map gcl) (List.replicate (W * H) 0) = L := ⟨_, rfl⟩
  have hL2 : pnc W a0 [evr] l1 (l3.map gcl) (List.replicate (W * H) 0) = L := by
    rw [← hL, HEI.out]
    exact pnc_all (H := H) (by simp) (by simp) (fun u v hu hv => inC_evr (by omega) (by omega)) (fun u v hu hv => inC_ara hW1 hH1 hu hv)
  rw [hL, hL2] at HB8
  clear hL hL2
  go_wp2_with fail
  refine (nrects_any a4 n4 c4 cl x8 (HC.out.on HB8.out.bel) (by omega)).mono ?_
  rintro e x9 ⟨a9, c9, rfl, hR9, _, hb9⟩
  have HB9 := hid (HB8.out.on hb9)
  have HB19 := hid (Below.on HB18.out hb9)
  have HR9 := hid hR9
  clear hR9 hb9 HB8 HB18
  go_wp2_with fail
  refine (qpart_any HB9.out.cv k0 hc1 a2 n2 c2 l2 (HZ.out.on HB9.out.bel) HZI.out (fun hn x hx => by have := HZF.out hn x hx; omega) ai ni ci hs (HGI.out.on HB19.out) (HGI.out.low (fun k hk => by simp only [List.mem_cons, List.not_mem_nil, or_false] at hk; omega)) HNI.out a9 n4 c9 cl HR9.out (by omega)).mono ?_
  rintro e x10 ⟨rfl, hC10, hk10⟩
  have HB10 := hid (HB9.out.one hk10 hC10)
  clear hC10 hk10 HB9 HR9 HB19
  go_wp2_with fail
  refine (rpart_any HB10.out.dv k0 hc1 a2 n2 c2 l2 (HZ.out.on HB10.out.bel) HZI.out (fun hn x hx => by have := HZF.out hn x hx; omega) a3 n3 c3 l3 (HG.out.on HB10.out.bel) (HG.out.low (fun k hk => by simp only [List.mem_cons, List.not_mem_nil, or_false] at hk; omega)) (imOk_le HOK.out) a4 n4 c4 cl (HC.out.on HB10.out.bel)).mono ?_
  rintro e x11 ⟨rfl, hC11, hk11⟩
  have HB11 := hid (HB10.out.two hk11 hC11)
  rw [HEI.out] at HB11
  generalize pnc W k0 cl l2 (l3.map gcl) L = L' at HB11
  clear hC11 hk11 HB10 HEI HNI HGI HA HZ HAI HZI HG HC HAF HZF
  have hls := HB11.out.cv.lt
  have hls2 := HB11.out.dv.lt
  have c2' := HB11.out.dv.c2
  rw [HN.out] at c2'
  go_wp2
  refine wp_region_held_drew (S := fun x => Cv 46 x q d W H L') (by kernel_rfl) ?hh (fun hHeld => ?_)
  case hh => exact (HB11.out.dv.on (Below.refl _ _).drew)
  refine wpAnyH_take (i := 0) (v := ?_) rfl (by kernel_rfl) (by kernel_rfl) (by kernel_rfl) (fun _ _ _ h => h) (Or.inl ⟨by kernel_rfl, ?hy0⟩) (by assumption) ?_
  case hy0 => (intro w hSw; (try dsimp only at hSw); have t2 := hSw.c2; rw [HN.out] at t2; go_simp; try with_reducible rfl)
  try simp only [Act.put, List.getElem_toArray, List.getElem_cons_zero, List.setIfInBounds_toArray, List.set_cons_zero, List.set_cons_succ]
  refine wpAnyH_take (i := 2) (v := ?_) rfl (by kernel_rfl) (by kernel_rfl) (by kernel_rfl) (fun _ _ _ h => h) (Or.inl ⟨by kernel_rfl, ?hy2⟩) (by assumption) ?_
  case hy2 => (intro w hSw; (try dsimp only at hSw); have t2 := hSw.c2; rw [HN.out] at t2; go_simp; try with_reducible rfl)
  try simp only [Act.put, List.getElem_toArray, List.getElem_cons_zero, List.getElem_cons_succ, List.setIfInBounds_toArray, List.set_cons_zero, List.set_cons_succ]
  refine wpAnyH_take (i := 3) (v := ?_) rfl (by kernel_rfl) (by kernel_rfl) (by kernel_rfl) (fun _ _ _ h => h) (Or.inl ⟨by kernel_rfl, ?hy3⟩) (by assumption) ?_
  case hy3 => (intro w hSw; (try dsimp only at hSw); have t2 := hSw.c2; rw [HN.out] at t2; go_simp; try with_reducible rfl)
  try simp only [Act.put, List.getElem_toArray, List.getElem_cons_zero, List.getElem_cons_succ, List.setIfInBounds_toArray, List.set_cons_zero, List.set_cons_succ]
  refine wpAnyH_take (i := 4) (v := ?_) rfl (by kernel_rfl) (by kernel_rfl) (by kernel_rfl) (fun _ _ _ h => h) (Or.inl ⟨by kernel_rfl, ?hy4⟩) (by assumption) ?_
  case hy4 => (intro w hSw; (try dsimp only at hSw); have t2 := hSw.c2; rw [HN.out] at t2; go_simp; try with_reducible rfl)
  try simp only [Act.put, List.getElem_toArray, List.getElem_cons_zero, List.getElem_cons_succ, List.setIfInBounds_toArray, List.set_cons_zero, List.set_cons_succ]
  refine wpAnyH_take (i := 5) (v := ?_) rfl (by kernel_rfl) (by kernel_rfl) (by kernel_rfl) (fun _ _ _ h => h) (Or.inl ⟨by kernel_rfl, ?hy5⟩) (by assumption) ?_
  case hy5 => (intro w hSw; (try dsimp only at hSw); have t2 := hSw.c2; rw [HN.out] at t2; go_simp; try with_reducible rfl)
  try simp only [Act.put, List.getElem_toArray, List.getElem_cons_zero, List.getElem_cons_succ, List.setIfInBounds_toArray, List.set_cons_zero, List.set_cons_succ]
  refine wpAnyH_ready (rs := [1]) (by kernel_rfl) (by simp) ?_
  refine AllReadyH.cons rfl (fun K hK => ?_) AllReadyH.nil
  go_simp
  go_wp2_with fail
  refine (pixels_any (HB11.out.cv.on (Below.refl _ _).drew)).mono ?_
  rintro e u9 ⟨g, rfl, hg, hOw, hb9⟩
  have hH9 := hHeld.on hb9
  have HB9 := hid ((HB11.out.on (Below.refl _ _).drew).on hb9)
  refine hK.out _ _ hH9 (fun _ => ?_)
  clear hK K hHeld hb9
  have hHeld := hH9
  rw [HN.out]
  refine wpAnyH_ready (rs := [6]) (by kernel_rfl) (by simp) ?_
  refine AllReadyH.cons rfl (fun K hK => ?_) AllReadyH.nil
  go_simp
  go_wp2_with fail
  obtain ⟨a9, c9, e9, hR9, _⟩ := rdw_of_owns hOw HB9.out.cv.col
  have hR8 := hHeld.rdi
  rw [HN.out] at hR8 hR9 e9
  cases e9
  refine (samew_any _ _ _ _ _ L' _ hR9 hR8 (by omega)).mono ?_
  rintro e u10 ⟨rfl, hb10⟩
  refine hK.out _ _ (hHeld.on hb10) (fun _ => ?_)
  have HB12 := hid (HB9.out.on hb10)
  clear hK K hHeld hb10 hR8 hR9 HB9
  have hHeld := HB12.out.dv
  refine wpAnyH_take (i := 7) (v := ?_) rfl (by kernel_rfl) (by kernel_rfl) (by kernel_rfl) (fun _ _ _ h => h) (Or.inl ⟨by kernel_rfl, ?hy7⟩) (by assumption) ?_
  case hy7 => (intro w hSw; (try dsimp only at hSw); have t2 := hSw.c2; rw [HN.out] at t2; go_simp; try with_reducible rfl)
  try simp only [Act.put, List.getElem_toArray, List.getElem_cons_zero, List.getElem_cons_succ, List.setIfInBounds_toArray, List.set_cons_zero, List.set_cons_succ]
  refine wpAnyH_ready (rs := [8]) (by kernel_rfl) (by simp) ?_
  refine AllReadyH.cons rfl (fun K hK => ?_) AllReadyH.nil
  go_simp
  go_wp2_with fail
  refine (qawake24_any _).mono ?_
  rintro e u11 ⟨rfl, hb11⟩
  refine hK.out _ _ (hHeld.on hb11) (fun _ => ?_)
  have HB13 := hid (HB12.out.on hb11)
  clear hK K hHeld hb11 HB12
  have hHeld := HB13.out.dv
  refine wpAnyH_take (i := 9) (v := ?_) rfl (by kernel_rfl) (by kernel_rfl) (by kernel_rfl) (fun _ _ _ h => h) (Or.inl ⟨by kernel_rfl, ?hy9⟩) (by assumption) ?_
  case hy9 => (intro w hSw; (try dsimp only at hSw); have t2 := hSw.c2; rw [HN.out] at t2; go_simp; try with_reducible rfl)
  try simp only [Act.put, List.getElem_toArray, List.getElem_cons_zero, List.getElem_cons_succ, List.setIfInBounds_toArray, List.set_cons_zero, List.set_cons_succ]
  refine wpAnyH_take (i := 10) (v := ?_) rfl (by kernel_rfl) (by kernel_rfl) (by kernel_rfl) (fun _ _ _ h => h) (Or.inl ⟨by kernel_rfl, ?hy10⟩) (by assumption) ?_
  case hy10 => (intro w hSw; (try dsimp only at hSw); have t2 := hSw.c2; rw [HN.out] at t2; go_simp; try with_reducible rfl)
  try simp only [Act.put, List.getElem_toArray, List.getElem_cons_zero, List.getElem_cons_succ, List.setIfInBounds_toArray, List.set_cons_zero, List.set_cons_succ]
  refine wpAnyH_done (by kernel_rfl) ?_ _
  go_wp2
  go_ret
  exact ⟨rfl, HB13.out.bel⟩
end Go.Proofs.YtlkodgmnhphfcaaGreatDoor.repaintParts
