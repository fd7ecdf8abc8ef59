/- RepaintWhole: for every colour, views and images the call returns true; nothing that was there has turned. -/
import Derived.Test.YtlkodgmnhphfcaaGreatDoorBh
import Derived.Test.YtlkodgmnhphfcaaGreatDoorBj
import Derived.Test.YtlkodgmnhphfcaaGreatDoorBk
import Derived.Test.YtlkodgmnhphfcaaGreatDoorBb
import Derived.LaidMore
namespace Go.Proofs.YtlkodgmnhphfcaaGreatDoor.repaintWhole
open Go Go.RowKit

theorem wfu {z : Int} (h : (Lit.int .u32 z).wf = true) : Col z := by
  simp [Lit.wf, IntKind.min, IntKind.max, IntKind.signed, IntKind.bits] at h
  unfold Col
  omega

set_option maxRecDepth 100000 in
set_option maxHeartbeats 4000000 in
theorem walk (a0 : Int) (a1 : Option Addr) (n1 c1 : Nat) (l1 : List (List Int)) (a2 : Option Addr) (n2 c2 : Nat) (l2 : List (List Int)) (a3 : Option Addr) (n3 c3 : Nat) (l3 : List Gv) (w : World) (w0 : (Lit.int .u32 a0).wf = true) (w1 : RdN 6 w a1 n1 c1 l1) (w2 : RdN 6 w a2 n2 c2 l2) (w3 : RdG w a3 n3 c3 l3) (_hL : laidMetH Tryz.prog Rows.repaintWholeRow.laid w) :
    Calls Tryz.prog 5 #[.int .u32 a0, .slice a1 n1 c1, .slice a2 n2 c2, .slice a3 n3 c3] w fun e w' => e = .returned (.bool true) ∧ Below w.heap.size w w' := by
  have hc := wfu w0
  have HA := hid (rdm_of_rdn (by omega) w1)
  have HZ := hid (rdm_of_rdn (by omega) w2)
  have HAI : Hid (∀ y ∈ l1, ∀ z ∈ y, I64 z) := fun y hy z hz => i64_wf (w1.wf y hy z hz)
  have HZI : Hid (∀ y ∈ l2, ∀ z ∈ y, I64 z) := fun y hy z hz => i64_wf (w2.wf y hy z hz)
  have HAL := hid w1.len
  have HZL := hid w2.len
  have HG := hid w3
  have h1 := HA.out.small
  have h2 := HZ.out.small
  obtain ⟨ok, hok⟩ : ∃ ok, imOk l3 = ok := ⟨_, rfl⟩
  have HOK := hid hok
  obtain ⟨s, hs⟩ : ∃ s, nrB l1 = s := ⟨_, rfl⟩
  obtain ⟨t, ht⟩ : ∃ t, nrB l2 = t := ⟨_, rfl⟩
  have HP := hid hs
  have HQ := hid ht
  have CI := hid (images_any a3 n3 c3 l3 w w3)
  obtain ⟨W, hW⟩ : ∃ W, (11 : Nat) = W := ⟨_, rfl⟩
  obtain ⟨H, hH⟩ : ∃ H, (8 : Nat) = H := ⟨_, rfl⟩
  have eW : (W : Int) = 11 := by omega
  have eH : (H : Int) = 8 := by omega
  have hW1 : 1 ≤ W ∧ W ≤ 48 := by omega
  have hH1 : 1 ≤ H ∧ H ≤ 48 := by omega
  have CW : Hid (∀ u, Calls Tryz.prog 7 #[.int .i64 11, .int .i64 8] u (Own 63 u W H (List.replicate (W * H) 0) fun v => .tuple #[v, .nilIface])) := fun u => by
    have := cnew_any u W H hW1 hH1
    rwa [eW, eH] at this
  obtain ⟨N, hN⟩ : ∃ N, W * H = N := ⟨_, rfl⟩
  have HN := hid hN
  have hNs : N ≤ 2304 := by rw [← hN]; exact Nat.mul_le_mul hW1.2 hH1.2
  clear w0 w1 w2 w3 _hL hok hs ht eW eH hN
  go_enter Tryz.func5, Tryz.ntmps5
  go_wp2_with fail
  refine CI.out.mono ?_
  rintro e x1 ⟨v, rfl, hb1, hyes⟩
  rw [HOK.out] at hyes ⊢
  have HB1 := hid hb1
  have HY := hid hyes
  clear hb1 hyes CI
  go_wp2_with fail
  refine (CW.out x1).mono ?_
  rintro e x3 ⟨p, b, rfl, hb3, hC, hp, hb⟩
  have HB3 := hid hb3
  have HCV := hid hC
  have HBW := hid (Below.on HB1.out hb3)
  have hs2 := HB1.out.size
  clear hb3 hC CW
  cases ok
  · clear HY HA HZ HAI HZI HG
    go_wp2_with fail
    refine (qawake24_any _).mono ?_
    rintro e x5 ⟨rfl, hb5⟩
    have HB5 := hid (Below.on HBW.out hb5)
    go_wp2
    go_ret
    exact ⟨rfl, HB5.out⟩
  obtain ⟨ai, ni, ci, hs, rfl, hGi, hEi, hNi⟩ := HY.out rfl
  have HGI := hid hGi
  have HEI := hid hEi
  have HNI := hid hNi
  clear hGi hEi hNi HY
  have CN := hid (qnear_any a1 n1 c1 l1 x3 (HA.out.on HBW.out))
  rw [HP.out] at CN
  go_wp2_with fail
  refine CN.out.mono ?_
  rintro e x4 ⟨rfl, hb4⟩
  have HB4 := hid hb4
  clear hb4 CN
  cases s
  · clear HA HZ HAI HZI HG HGI HEI HNI
    go_wp2_with fail
    refine (qawake24_any _).mono ?_
    rintro e x5 ⟨rfl, hb5⟩
    have HB5 := hid (Below.on (Below.on HBW.out HB4.out) hb5)
    go_wp2
    go_ret
    exact ⟨rfl, HB5.out⟩
  have CM := hid (qnear_any a2 n2 c2 l2 x4 (HZ.out.on (Below.on HBW.out HB4.out)))
  rw [HQ.out] at CM
  go_wp2_with fail
  refine CM.out.mono ?_
  rintro e x5 ⟨rfl, hb5⟩
  have HB35 := hid (Below.on HB4.out hb5)
  have HB5 := hid (Below.on HBW.out HB35.out)
  have HB15 := hid (Below.on HB3.out HB35.out)
  clear hb5 CM HB4
  cases t
  · clear HA HZ HAI HZI HG HGI HEI HNI
    go_wp2_with fail
    refine (qawake24_any _).mono ?_
    rintro e x6 ⟨rfl, hb6⟩
    have HB6 := hid (Below.on HB5.out hb6)
    go_wp2
    go_ret
    exact ⟨rfl, HB6.out⟩
  have hn1 := nrB_len HP.out
  have hn2 := nrB_len HQ.out
  rw [HAL.out] at hn1
  rw [HZL.out] at hn2
  have HCV5 := hid (HCV.out.on HB35.out)
  clear HCV HB35 HBW HB3
  go_wp2_with fail
  refine (qsized_any a1 n1 c1 l1 a3 n3 c3 l3 x5 (HA.out.on HB5.out) HAI.out (HG.out.on HB5.out) (by omega)).mono ?_
  rintro e x6 ⟨ax, nx, cx, X, rfl, hRX, hnx, hSX, hNX, hb6⟩
  have HRX := hid hRX
  have HSX := hid hSX
  have HNX := hid hNX
  have HB6 := hid (Below.on HB5.out hb6)
  have HB16 := hid (Below.on HB15.out hb6)
  have HCV6 := hid (HCV5.out.on hb6)
  have hb5s := HCV5.out.lt
  clear hRX hSX hNX hb6 HB5 HB15 HCV5
  go_wp2_with fail
  refine (qsized_any a2 n2 c2 l2 a3 n3 c3 l3 x6 (HZ.out.on HB6.out) HZI.out (HG.out.on HB6.out) (by omega)).mono ?_
  rintro e x7 ⟨ay, ny, cy, Y, rfl, hRY, hny, hSY, hNY, hb7⟩
  have HRY := hid hRY
  have HSY := hid hSY
  have HNY := hid hNY
  have HRX7 := hid (HRX.out.on hb7)
  have HB7 := hid (Below.on HB6.out hb7)
  have HB17 := hid (Below.on HB16.out hb7)
  have HCV7 := hid (HCV6.out.on hb7)
  have hb6s := HCV6.out.lt
  clear hRY hSY hNY hb7 HB6 HB16 HCV6 HRX HA HZ HAI HZI HG
  go_wp2_with fail
  refine (pall_any HCV7.out a0 hc ax nx cx X HRX7.out (fun y hy => (HSX.out y hy).2) (fun hn x hx => by have := HNX.out x hx; omega) ai ni ci hs (HGI.out.on HB17.out) (HGI.out.low (fun k hk => by simp only [List.mem_cons, List.not_mem_nil, or_false] at hk; omega)) HNI.out).mono ?_
  rintro e x8 ⟨rfl, hC8, hk8⟩
  have HC8 := hid hC8
  have HB8 := hid (bel_kp HB7.out hk8 HB7.out.size (fun k hk => by simp only [List.mem_cons, List.not_mem_nil, or_false] at hk; omega))
  have HB18 := hid (bel_kp HB17.out hk8 HB17.out.size (fun k hk => by simp only [List.mem_cons, List.not_mem_nil, or_false] at hk; omega))
  have HRX8 := hid (HRX7.out.kp hk8 (fun x hx hn => by have := HNX.out x hx; simp only [List.mem_singleton]; omega))
  have HRY8 := hid (HRY.out.kp hk8 (fun x hx hn => by have := HNY.out x hx; simp only [List.mem_singleton]; omega))
  clear hC8 hk8 HCV7 HB7 HB17 HRX7 HRY
  obtain ⟨L, hL⟩ : ∃ L, pnc W a0 [ara W H] X (hs.map gcl) (List.replicate (W * H) 0) = L := ⟨_, rfl⟩
  have hLL : L.length = W * H := by rw [← hL, pnc_length]; simp
  have HLD := hid hL
  rw [hL] at HC8
  clear hL
  go_wp2_with fail
  refine (ccopy_any HC8.out).mono ?_
  rintro e x9 ⟨q, d, rfl, hb9, hC9, hq, hd⟩
  have hpl := HC8.out.lt
  have hs8 := HB8.out.size
  have HD9 : Hid (Duo w x9 p b q d W H L L) := ⟨HC8.out.on hb9, hC9, by omega, by omega, by omega, by omega, by omega, Below.on HB8.out hb9⟩
  have HB19 := hid (Below.on HB18.out hb9)
  have HRX9 := hid (HRX8.out.on hb9)
  have HRY9 := hid (HRY8.out.on hb9)
  have HXF : Hid (∀ x, 0 < nx → ax = some x → x.block < x8.heap.size) := fun x hn hx => by
    obtain ⟨bb, oo, e3, h4, _⟩ := HRX8.out.pl hn
    rw [hx] at e3
    cases e3
    exact h4
  have HYF : Hid (∀ x, 0 < ny → ay = some x → x.block < x8.heap.size) := fun x hn hx => by
    obtain ⟨bb, oo, e3, h4, _⟩ := HRY8.out.pl hn
    rw [hx] at e3
    cases e3
    exact h4
  clear hb9 hC9 HC8 HB8 HB18 HRX8 HRY8
  go_wp2_with fail
  refine (pall_any HD9.out.dv a0 hc ay ny cy Y HRY9.out (fun y hy => (HSY.out y hy).2) (fun hn x hx => by have := HYF.out x hn hx; omega) ai ni ci hs (HGI.out.on HB19.out) (HGI.out.low (fun k hk => by simp only [List.mem_cons, List.not_mem_nil, or_false] at hk; omega)) HNI.out).mono ?_
  rintro e x10 ⟨rfl, hC10, hk10⟩
  have HD10 := hid (HD9.out.two hk10 hC10)
  have HB110 := hid (bel_kp HB19.out hk10 HB19.out.size (fun k hk => by simp only [List.mem_cons, List.not_mem_nil, or_false] at hk; omega))
  have HRX10 := hid (HRX9.out.kp hk10 (fun x hx hn => by have := HXF.out x hn hx; simp only [List.mem_singleton]; omega))
  have HRY10 := hid (HRY9.out.kp hk10 (fun x hx hn => by have := HYF.out x hn hx; simp only [List.mem_singleton]; omega))
  clear hC10 hk10 HD9 HB19 HRX9 HRY9
  go_wp2_with fail
  refine (qchanged_any ax nx cx X ay ny cy Y none 0 0 [] x10 HRX10.out HRY10.out (RdD.nil _) (fun y hy => (HSX.out y hy).1.ok) (fun y hy => (HSY.out y hy).1.ok) (by omega) (by omega) (by omega) (by simp)).mono ?_
  rintro e x11 ⟨a11, c11, rfl, h11, hb11⟩
  rw [show (([] : List Dv).map ddl) = [] from rfl] at h11 ⊢
  have H11 := hid h11
  have HD11 := hid (HD10.out.on hb11)
  have HB111 := hid (Below.on HB110.out hb11)
  have HRY11 := hid (HRY10.out.on hb11)
  clear h11 hb11 HD10 HB110 HRX10 HRY10
  have hdl := dfl_len (chl X Y [])
  have HRG : Hid (rgn (dfl (chl X Y [])) = true) := rgn_iff.2 (dfl_reg _)
  have HWH : Hid (pnc W a0 (dfl (chl X Y [])) Y (hs.map gcl) L = pnc W a0 [ara W H] Y (hs.map gcl) L) := by
    rw [Hid, HEI.out, ← HLD.out, HEI.out]
    exact rp_whole (H := H) (by omega) (by omega) (fun y hy => (HSX.out y hy).1) (fun y hy => (HSY.out y hy).1) (by simp) (by rw [pnc_length]; simp) (fun u v hu hv => inC_ara hW1 hH1 hu hv)
  generalize dfl (chl X Y []) = D at H11 hdl HRG HWH ⊢
  go_wp2_with fail
  refine (qpart_any HD11.out.cv a0 hc ay ny cy Y HRY11.out (fun y hy => (HSY.out y hy).2) (fun hn x hx => by have := HNY.out x hx; omega) ai ni ci hs (HGI.out.on HB111.out) (HGI.out.low (fun k hk => by simp only [List.mem_cons, List.not_mem_nil, or_false] at hk; omega)) HNI.out a11 _ c11 D H11.out (by omega)).mono ?_
  rintro e x12 ⟨rfl, hC12, hk12⟩
  rw [HWH.out] at hC12
  have HD12 := hid (HD11.out.one hk12 hC12)
  have H12 := hid (H11.out.kept hk12 (fun i z hz => HD11.out.cv.no64 hz))
  generalize pnc W a0 [ara W H] Y (hs.map gcl) L = M at HD12
  clear hC12 hk12 HD11 HB111 HRY11 H11 HWH HLD hLL HSX HSY HNX HNY HXF HYF HGI HEI HNI
  go_wp2_with fail
  refine (pixels_any HD12.out.cv).mono ?_
  rintro e x13 ⟨g, rfl, hg, hOw, hb13⟩
  rw [HN.out] at hOw ⊢
  have HD13 := hid (HD12.out.on hb13)
  have H13 := hid (H12.out.on hb13)
  obtain ⟨a9, c9, e9, hR9, _⟩ := rdw_of_owns hOw HD12.out.cv.col
  cases e9
  have HR9 := hid hR9
  clear hOw hb13 hR9 HD12 H12
  go_wp2_with fail
  refine (pixels_any HD13.out.dv).mono ?_
  rintro e x14 ⟨g', rfl, hg', hOw, hb14⟩
  rw [HN.out] at hOw ⊢
  have HD14 := hid (HD13.out.on hb14)
  have H14 := hid (H13.out.on hb14)
  have HR94 := hid (HR9.out.on hb14)
  obtain ⟨a8, c8, e8, hR8, _⟩ := rdw_of_owns hOw HD13.out.dv.col
  cases e8
  have HR8 := hid hR8
  clear hOw hb14 hR8 HD13 H13 HR9
  go_wp2_with fail
  refine (samew_any _ _ _ _ _ M _ HR94.out HR8.out (by omega)).mono ?_
  rintro e x15 ⟨rfl, hb15⟩
  have HD15 := hid (HD14.out.on hb15)
  have H15 := hid (H14.out.on hb15)
  clear hb15 HD14 H14 HR94 HR8
  have CR := hid (rregcheck_any a11 _ c11 _ _ H15.out (by omega))
  rw [HRG.out] at CR
  go_wp2_with fail
  refine CR.out.mono ?_
  rintro e x16 ⟨rfl, hb16⟩
  have HD16 := hid (HD15.out.on hb16)
  clear hb16 HD15 H15 CR
  go_wp2_with fail
  refine (qawake24_any _).mono ?_
  rintro e x17 ⟨rfl, hb17⟩
  have HD17 := hid (HD16.out.on hb17)
  go_wp2
  go_ret
  exact ⟨rfl, HD17.out.bel⟩
end Go.Proofs.YtlkodgmnhphfcaaGreatDoor.repaintWhole
