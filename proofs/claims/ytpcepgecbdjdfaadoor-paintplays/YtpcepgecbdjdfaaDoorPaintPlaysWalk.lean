/- PaintPlays: for every two numbers, colour, views and images the call returns true; nothing that was there has turned. -/
import Derived.Test.YtpcepgecbdjdfaaDoorBh
import Derived.Test.YtpcepgecbdjdfaaDoorBi
import Derived.Test.YtpcepgecbdjdfaaDoorBa
import Derived.LaidMore
namespace Go.Proofs.YtpcepgecbdjdfaaDoor.paintPlays
open Go Go.RowKit

set_option maxRecDepth 100000 in
set_option maxHeartbeats 4000000 in
theorem walk (a0 a1 a2 : Int) (a3 : Option Addr) (n3 c3 : Nat) (l3 : List (List Int)) (a4 : Option Addr) (n4 c4 : Nat) (l4 : List Gv) (w : World) (w0 : (Lit.int .i64 a0).wf = true) (w1 : (Lit.int .i64 a1).wf = true) (w2 : (Lit.int .u32 a2).wf = true) (w3 : RdN 6 w a3 n3 c3 l3) (w4 : RdG w a4 n4 c4 l4) (_hL : laidMetH Tryd.prog Rows.paintPlaysRow.laid w) :
    Calls Tryd.prog 4 #[.int .i64 a0, .int .i64 a1, .int .u32 a2, .slice a3 n3 c3, .slice a4 n4 c4] w fun e w' => e = .returned (.bool true) ∧ Below w.heap.size w w' := by
  have hc := wfu w2
  obtain ⟨i0, hi, hz0, hz1, hz2⟩ := infoMP infoV23
  have HP0 : Hid (∀ u, Calls Tryd.prog 21 #[.int .i64 a0, .int .i64 20] u fun e w' => e = .returned (.int .i64 (plc a0 20 : Nat)) ∧ w' = u) := fun u => place_any a0 20 (wfi w0) (by omega) (by omega) u
  have HP1 : Hid (∀ u, Calls Tryd.prog 21 #[.int .i64 a1, .int .i64 20] u fun e w' => e = .returned (.int .i64 (plc a1 20 : Nat)) ∧ w' = u) := fun u => place_any a1 20 (wfi w1) (by omega) (by omega) u
  have b0 := plc_lt a0 20 (by omega)
  have b1 := plc_lt a1 20 (by omega)
  generalize plc a0 20 = m0 at *
  generalize plc a1 20 = m1 at *
  obtain ⟨W, hW⟩ : ∃ W, 1 + m0 = W := ⟨_, rfl⟩
  obtain ⟨H, hH⟩ : ∃ H, 1 + m1 = H := ⟨_, rfl⟩
  have eW : (1 : Int) + (m0 : Int) = (W : Int) := by omega
  have eH : (1 : Int) + (m1 : Int) = (H : Int) := by omega
  have hW1 : 1 ≤ W ∧ W ≤ 48 := by omega
  have hH1 : 1 ≤ H ∧ H ≤ 48 := by omega
  have HV := hid (rdm_of_rdn (by omega) w3)
  have HVI : Hid (∀ y ∈ l3, ∀ z ∈ y, I64 z) := fun y hy z hz => wfi (w3.wf y hy z hz)
  have HVS := hid w3.size
  have h3 := HV.out.small
  have h3l := hid w3.len
  have HG := hid w4
  obtain ⟨ok, hok⟩ : ∃ ok, imOk l4 = ok := ⟨_, rfl⟩
  have HOK := hid hok
  have CI := hid (images_any a4 n4 c4 l4 w w4)
  obtain ⟨N, hN⟩ : ∃ N, W * H = N := ⟨_, rfl⟩
  have HN := hid hN
  have hNs : N ≤ 2304 := by rw [← hN]; exact Nat.mul_le_mul hW1.2 hH1.2
  clear w0 w1 w2 w3 w4 _hL hok hW hH b0 b1 hN
  go_enter Tryd.func4, Tryd.ntmps4
  go_wp2_with fail
  refine CI.out.mono ?_
  rintro e x1 ⟨v, rfl, hb1, hyes⟩
  rw [HOK.out] at hyes ⊢
  have HB1 := hid hb1
  have HY := hid hyes
  clear hb1 hyes CI
  go_wp2_with fail
  refine (HP0.out _).mono ?_
  rintro e x2 ⟨rfl, rfl⟩
  go_wp2_with fail
  refine (HP1.out _).mono ?_
  rintro e x2 ⟨rfl, rfl⟩
  clear HP0 HP1
  go_wp2_with fail
  refine (cnew_any x2 W H hW1 hH1).mono ?_
  rintro e x3 ⟨p, b, rfl, hb3, hC, hp, hb⟩
  have HB3 := hid hb3
  have HC := hid hC
  have l1 := hC.lt
  clear hb3 hC
  go_wp2_with fail
  refine (rnew_any x3 W H hW1 hH1).mono ?_
  rintro e x4 ⟨q, d, rfl, hb4, hD, hq, hd⟩
  have hs2 := HB1.out.size
  have hs3 := HB3.out.size
  have hs4 := hb4.size
  have HB : Hid (Bo w x4 p b q d W H (List.replicate (W * H) 0) (List.replicate (W * H) 0)) := ⟨HC.out.on hb4, hD, by omega, by omega, by omega, by omega, by omega, Below.on (Below.on HB1.out HB3.out) hb4⟩
  have HB24 := hid (Below.on HB3.out hb4)
  clear hb4 hD HC HB3
  cases ok
  · clear HY HV HVI HVS HG
    go_wp2_with fail
    refine (pawake23_any _).mono ?_
    rintro e x5 ⟨rfl, hb5⟩
    have HB5 := hid (HB.out.on hb5)
    go_wp2
    go_ret
    exact ⟨rfl, HB5.out.bel⟩
  by_cases h12 : 12 < n3
  · have e12 : decide ((12 : Int) < n3) = true := decide_eq_true (by omega)
    clear HY HV HVI HVS HG
    go_wp2_with fail
    refine (pawake23_any _).mono ?_
    rintro e x5 ⟨rfl, hb5⟩
    have HB5 := hid (HB.out.on hb5)
    go_wp2
    go_ret
    exact ⟨rfl, HB5.out.bel⟩
  have e12 : decide ((12 : Int) < n3) = false := decide_eq_false (by omega)
  obtain ⟨ai, ni, ci, hs, rfl, hGi, hEi, hNi⟩ := HY.out rfl
  have HGI := hid hGi
  have HEI := hid hEi
  have HNI := hid hNi
  clear hGi hEi hNi HY
  have HS := hid ((HV.out.on HB.out.bel).src (P := Tryd.prog) (t := 59) (e := 74) Tryd.underlying59)
  have HO := hid (OwM.nil 6 74 x4)
  go_wp2_with (at_builtin; refine wpList_append_own_src _ rfl (.const (.slice none 0 0)) (.tmp 56) 59 59 rfl x4.heap.size 74 i0 (.agg #[.int .i64 0, .int .i64 0, .int .i64 0, .int .i64 0, .int .i64 0, .int .i64 0]) 6 48 Tryd.underlying59 hi hz0 hz1 hz2 rfl _ _ _ rfl HO.out.own _ _ _ rfl HS.out (by simp only [maxLen, List.length_nil]; omega) (fits48 (by simp only [List.length_nil]; omega) (by omega)) (Nat.le_refl _) ?_; intro v5 x5 o5 g5; have HZ := hid (HO.out.grown HVS.out (by rw [h3l.out]; exact o5) g5); clear o5 g5)
  obtain ⟨a5, c5, rfl, hR5, hn5⟩ := HZ.out.rd
  rw [List.nil_append, h3l.out] at hR5 ⊢
  have HR5 := hid hR5
  have HN5 := hid hn5
  have HB5 := hid (HB.out.on HZ.out.bel)
  have HB25 := hid (Below.on HB24.out HZ.out.bel)
  clear hR5 hn5 HS HO HZ HB HB24
  go_wp2_with fail
  refine (pall_any HB5.out.cv a2 hc a5 n3 c5 l3 HR5.out HVI.out (fun _ x hx => by have := (HN5.out x hx).1; omega) ai ni ci hs (HGI.out.on HB25.out) (HGI.out.low (fun k hk => by simp only [List.mem_cons, List.not_mem_nil, or_false] at hk; omega)) HNI.out).mono ?_
  rintro e x6 ⟨rfl, hC6, hk6⟩
  have HB6 := hid (HB5.out.one hk6 hC6)
  clear hC6 hk6 HB5
  go_wp2_with fail
  refine (reverywhere_any x6).mono ?_
  rintro e x7 ⟨⟨ae, rfl, hae, hRe⟩, hb7⟩
  have HB7 := hid (HB6.out.on hb7)
  have HRe := hid hRe
  clear hRe hb7 HB6
  go_wp2_with fail
  refine (rpart_any HB7.out.dv a2 hc a3 n3 c3 l3 (HV.out.on HB7.out.bel) HVI.out (fun hn x hx => by
    obtain ⟨bb, oo, e3, h4, _⟩ := HV.out.pl hn
    rw [hx] at e3
    cases e3
    dsimp only
    omega) a4 n4 c4 l4 (HG.out.on HB7.out.bel) (HG.out.low (fun k hk => by simp only [List.mem_cons, List.not_mem_nil, or_false] at hk; omega)) (imOk_le HOK.out) _ 1 1 [evr] HRe.out).mono ?_
  rintro e x8 ⟨rfl, hC8, hk8⟩
  have HB8 := hid (HB7.out.two hk8 hC8)
  clear hC8 hk8 HB7 HRe
  obtain ⟨L, hL⟩ : ∃ L, pnc W a2 [ara W H] l3 (hs.map gcl) (List.replicate (W * H) 0) = L := ⟨_, rfl⟩
  have hL2 : pnc W a2 [evr] l3 (l4.map gcl) (List.replicate (W * H) 0) = L := by
    rw [← hL, HEI.out]
    exact pnc_all (H := H) (by simp) (by simp) (fun u v hu hv => inC_evr (by omega) (by omega)) (fun u v hu hv => inC_ara hW1 hH1 hu hv)
  rw [hL, hL2] at HB8
  clear hL hL2 HEI HNI HGI HV HVI HVS HG HN5 HR5 HB25
  have hls := HB8.out.cv.lt
  have hls2 := HB8.out.dv.lt
  have c2 := HB8.out.dv.c2
  rw [HN.out] at c2
  go_wp2
  refine wp_region_held_drew (S := fun x => Cv 71 x q d W H L) (by kernel_rfl) ?hh (fun hHeld => ?_)
  case hh => exact (HB8.out.dv.on (Below.refl _ _).drew)
  refine wpAnyH_take (i := 0) (v := ?_) rfl (by kernel_rfl) (by kernel_rfl) (by kernel_rfl) (fun _ _ _ h => h) (Or.inl ⟨by kernel_rfl, ?hy0⟩) (by assumption) ?_
  case hy0 => (intro w hSw; (try dsimp only at hSw); have t2 := hSw.c2; rw [HN.out] at t2; go_simp; try with_reducible rfl)
  try simp only [Act.put, List.getElem_toArray, List.getElem_cons_zero, List.setIfInBounds_toArray, List.set_cons_zero, List.set_cons_succ]
  refine wpAnyH_take (i := 2) (v := ?_) rfl (by kernel_rfl) (by kernel_rfl) (by kernel_rfl) (fun _ _ _ h => h) (Or.inl ⟨by kernel_rfl, ?hy2⟩) (by assumption) ?_
  case hy2 => (intro w hSw; (try dsimp only at hSw); have t2 := hSw.c2; rw [HN.out] at t2; go_simp; try with_reducible rfl)
  try simp only [Act.put, List.getElem_toArray, List.getElem_cons_zero, List.getElem_cons_succ, List.setIfInBounds_toArray, List.set_cons_zero, List.set_cons_succ]
  refine wpAnyH_take (i := 3) (v := ?_) rfl (by kernel_rfl) (by kernel_rfl) (by kernel_rfl) (fun _ _ _ h => h) (Or.inl ⟨by kernel_rfl, ?hy3⟩) (by assumption) ?_
  case hy3 => (intro w hSw; (try dsimp only at hSw); have t2 := hSw.c2; rw [HN.out] at t2; go_simp; try with_reducible rfl)
  try simp only [Act.put, List.getElem_toArray, List.getElem_cons_zero, List.getElem_cons_succ, List.setIfInBounds_toArray, List.set_cons_zero, List.set_cons_succ]
  refine wpAnyH_take (i := 4) (v := ?_) rfl (by kernel_rfl) (by kernel_rfl) (by kernel_rfl) (fun _ _ _ h => h) (Or.inl ⟨by kernel_rfl, ?hy4⟩) (by assumption) ?_
  case hy4 => (intro w hSw; (try dsimp only at hSw); have t2 := hSw.c2; rw [HN.out] at t2; go_simp; try with_reducible rfl)
  try simp only [Act.put, List.getElem_toArray, List.getElem_cons_zero, List.getElem_cons_succ, List.setIfInBounds_toArray, List.set_cons_zero, List.set_cons_succ]
  refine wpAnyH_take (i := 5) (v := ?_) rfl (by kernel_rfl) (by kernel_rfl) (by kernel_rfl) (fun _ _ _ h => h) (Or.inl ⟨by kernel_rfl, ?hy5⟩) (by assumption) ?_
  case hy5 => (intro w hSw; (try dsimp only at hSw); have t2 := hSw.c2; rw [HN.out] at t2; go_simp; try with_reducible rfl)
  try simp only [Act.put, List.getElem_toArray, List.getElem_cons_zero, List.getElem_cons_succ, List.setIfInBounds_toArray, List.set_cons_zero, List.set_cons_succ]
  refine wpAnyH_ready (rs := [1]) (by kernel_rfl) (by simp) ?_
  refine AllReadyH.cons rfl (fun K hK => ?_) AllReadyH.nil
  go_simp
  go_wp2_with fail
  refine (pixels_any (HB8.out.cv.on (Below.refl _ _).drew)).mono ?_
  rintro e u9 ⟨g, rfl, hg, hOw, hb9⟩
  have hH9 := hHeld.on hb9
  have HB9 := hid ((HB8.out.on (Below.refl _ _).drew).on hb9)
  refine hK.out _ _ hH9 (fun _ => ?_)
  clear hK K hHeld hb9
  have hHeld := hH9
  rw [HN.out]
  refine wpAnyH_ready (rs := [6]) (by kernel_rfl) (by simp) ?_
  refine AllReadyH.cons rfl (fun K hK => ?_) AllReadyH.nil
  go_simp
  go_wp2_with fail
  obtain ⟨a9, c9, e9, hR9, _⟩ := rdw_of_owns hOw HB9.out.cv.col
  have hR8 := hHeld.rdi
  rw [HN.out] at hR8 hR9 e9
  cases e9
  refine (samew_any _ _ _ _ _ L _ hR9 hR8 (by omega)).mono ?_
  rintro e u10 ⟨rfl, hb10⟩
  refine hK.out _ _ (hHeld.on hb10) (fun _ => ?_)
  have HB10 := hid (HB9.out.on hb10)
  clear hK K hHeld hb10 hR8 hR9 HB9
  have hHeld := HB10.out.dv
  refine wpAnyH_take (i := 7) (v := ?_) rfl (by kernel_rfl) (by kernel_rfl) (by kernel_rfl) (fun _ _ _ h => h) (Or.inl ⟨by kernel_rfl, ?hy7⟩) (by assumption) ?_
  case hy7 => (intro w hSw; (try dsimp only at hSw); have t2 := hSw.c2; rw [HN.out] at t2; go_simp; try with_reducible rfl)
  try simp only [Act.put, List.getElem_toArray, List.getElem_cons_zero, List.getElem_cons_succ, List.setIfInBounds_toArray, List.set_cons_zero, List.set_cons_succ]
  refine wpAnyH_ready (rs := [8]) (by kernel_rfl) (by simp) ?_
  refine AllReadyH.cons rfl (fun K hK => ?_) AllReadyH.nil
  go_simp
  go_wp2_with fail
  refine (pawake23_any _).mono ?_
  rintro e u11 ⟨rfl, hb11⟩
  refine hK.out _ _ (hHeld.on hb11) (fun _ => ?_)
  have HB11 := hid (HB10.out.on hb11)
  clear hK K hHeld hb11 HB10
  have hHeld := HB11.out.dv
  refine wpAnyH_take (i := 9) (v := ?_) rfl (by kernel_rfl) (by kernel_rfl) (by kernel_rfl) (fun _ _ _ h => h) (Or.inl ⟨by kernel_rfl, ?hy9⟩) (by assumption) ?_
  case hy9 => (intro w hSw; (try dsimp only at hSw); have t2 := hSw.c2; rw [HN.out] at t2; go_simp; try with_reducible rfl)
  try simp only [Act.put, List.getElem_toArray, List.getElem_cons_zero, List.getElem_cons_succ, List.setIfInBounds_toArray, List.set_cons_zero, List.set_cons_succ]
  refine wpAnyH_take (i := 10) (v := ?_) rfl (by kernel_rfl) (by kernel_rfl) (by kernel_rfl) (fun _ _ _ h => h) (Or.inl ⟨by kernel_rfl, ?hy10⟩) (by assumption) ?_
  case hy10 => (intro w hSw; (try dsimp only at hSw); have t2 := hSw.c2; rw [HN.out] at t2; go_simp; try with_reducible rfl)
  try simp only [Act.put, List.getElem_toArray, List.getElem_cons_zero, List.getElem_cons_succ, List.setIfInBounds_toArray, List.set_cons_zero, List.set_cons_succ]
  refine wpAnyH_done (by kernel_rfl) ?_ _
  go_wp2
  go_ret
  exact ⟨rfl, HB11.out.bel⟩
end Go.Proofs.YtpcepgecbdjdfaaDoor.paintPlays
