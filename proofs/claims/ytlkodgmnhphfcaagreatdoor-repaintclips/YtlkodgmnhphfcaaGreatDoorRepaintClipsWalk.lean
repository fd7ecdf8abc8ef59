/- RepaintClips: for every colour, views, images and clip the call returns true; nothing that was there has turned. -/
import Derived.Test.YtlkodgmnhphfcaaGreatDoorBh
import Derived.Test.YtlkodgmnhphfcaaGreatDoorBg
import Derived.Test.YtlkodgmnhphfcaaGreatDoorBk
import Derived.Test.YtlkodgmnhphfcaaGreatDoorBb
import Derived.LaidMore
namespace Go.Proofs.YtlkodgmnhphfcaaGreatDoor.repaintClips
open Go Go.RowKit

theorem wfu {z : Int} (h : (Lit.int .u32 z).wf = true) : Col z := by
  simp [Lit.wf, IntKind.min, IntKind.max, IntKind.signed, IntKind.bits] at h
  unfold Col
  omega

set_option maxRecDepth 100000 in
set_option maxHeartbeats 4000000 in
theorem walk (a0 : Int) (a1 : Option Addr) (n1 c1 : Nat) (l1 : List (List Int)) (a2 : Option Addr) (n2 c2 : Nat) (l2 : List (List Int)) (a3 : Option Addr) (n3 c3 : Nat) (l3 : List Gv) (a4 : Option Addr) (n4 c4 : Nat) (l4 : List (List Int)) (w : World) (w0 : (Lit.int .u32 a0).wf = true) (w1 : RdN 6 w a1 n1 c1 l1) (w2 : RdN 6 w a2 n2 c2 l2) (w3 : RdG w a3 n3 c3 l3) (w4 : RdN 4 w a4 n4 c4 l4) (_hL : laidMetH Tryz.prog Rows.repaintClipsRow.laid w) :
    Calls Tryz.prog 4 #[.int .u32 a0, .slice a1 n1 c1, .slice a2 n2 c2, .slice a3 n3 c3, .slice a4 n4 c4] w fun e w' => e = .returned (.bool true) ∧ Below w.heap.size w w' := by
  have hc := wfu w0
  have HA := hid (rdm_of_rdn (by omega) w1)
  have HZ := hid (rdm_of_rdn (by omega) w2)
  have HAI : Hid (∀ y ∈ l1, ∀ z ∈ y, I64 z) := fun y hy z hz => i64_wf (w1.wf y hy z hz)
  have HZI : Hid (∀ y ∈ l2, ∀ z ∈ y, I64 z) := fun y hy z hz => i64_wf (w2.wf y hy z hz)
  have h1 := HA.out.small
  have h2 := HZ.out.small
  have HC := hid (rdc_of_rdn w4)
  have h4 := HC.out.small
  obtain ⟨cl, hcl⟩ : ∃ cl, (List.range n4).map (rcOf l4) = cl := ⟨_, rfl⟩
  rw [hcl] at HC
  obtain ⟨ok, hok⟩ : ∃ ok, imOk l3 = ok := ⟨_, rfl⟩
  have HOK := hid hok
  have CI := hid (images_any a3 n3 c3 l3 w w3)
  obtain ⟨W, hW⟩ : ∃ W, (11 : Nat) = W := ⟨_, rfl⟩
  obtain ⟨H, hH⟩ : ∃ H, (8 : Nat) = H := ⟨_, rfl⟩
  have eW : (W : Int) = 11 := by omega
  have eH : (H : Int) = 8 := by omega
  have hW1 : 1 ≤ W ∧ W ≤ 48 := by omega
  have hH1 : 1 ≤ H ∧ H ≤ 48 := by omega
  have CW : Hid (∀ u, Calls Tryz.prog 7 #[.int .i64 11, .int .i64 8] u (Own 63 u W H (List.replicate (W * H) 0) fun v => .tuple #[v, .nilIface])) := fun u => by
    have := cnew_any u W H hW1 hH1
    rwa [eW, eH] at this
  clear w0 w1 w2 w3 w4 _hL hok hcl
  go_enter Tryz.func4, Tryz.ntmps4
  go_wp2_with fail
  refine CI.out.mono ?_
  rintro e x1 ⟨v, rfl, hb1, hyes⟩
  rw [HOK.out] at hyes ⊢
  have HB1 := hid hb1
  have HY := hid hyes
  clear hb1 hyes CI
  go_wp2_with fail
  refine (CW.out x1).mono ?_
  rintro e x3 ⟨p, b, rfl, hb3, hC, hp, hb⟩
  have HB3 := hid hb3
  have HCV := hid hC
  have HBW := hid (Below.on HB1.out hb3)
  have hs2 := HB1.out.size
  clear hb3 hC CW
  cases ok
  · clear HY HA HZ HAI HZI HC
    go_wp2_with fail
    refine (qawake24_any _).mono ?_
    rintro e x5 ⟨rfl, hb5⟩
    have HB5 := hid (Below.on HBW.out hb5)
    go_wp2
    go_ret
    exact ⟨rfl, HB5.out⟩
  obtain ⟨ai, ni, ci, hs, rfl, hGi, hEi, hNi⟩ := HY.out rfl
  have HGI := hid hGi
  have HNI := hid hNi
  clear hGi hEi hNi HY
  by_cases g1 : 8 < n1
  · have e1 : decide ((8 : Int) < n1) = true := decide_eq_true (by omega)
    clear HA HZ HAI HZI HC HGI HNI
    go_wp2_with fail
    refine (qawake24_any _).mono ?_
    rintro e x5 ⟨rfl, hb5⟩
    have HB5 := hid (Below.on HBW.out hb5)
    go_wp2
    go_ret
    exact ⟨rfl, HB5.out⟩
  have e1 : decide ((8 : Int) < n1) = false := decide_eq_false (by omega)
  by_cases g2 : 8 < n2
  · have e2 : decide ((8 : Int) < n2) = true := decide_eq_true (by omega)
    clear HA HZ HAI HZI HC HGI HNI
    go_wp2_with fail
    refine (qawake24_any _).mono ?_
    rintro e x5 ⟨rfl, hb5⟩
    have HB5 := hid (Below.on HBW.out hb5)
    go_wp2
    go_ret
    exact ⟨rfl, HB5.out⟩
  have e2 : decide ((8 : Int) < n2) = false := decide_eq_false (by omega)
  by_cases g4 : 6 < n4
  · have e4 : decide ((6 : Int) < n4) = true := decide_eq_true (by omega)
    clear HA HZ HAI HZI HC HGI HNI
    go_wp2_with fail
    refine (qawake24_any _).mono ?_
    rintro e x5 ⟨rfl, hb5⟩
    have HB5 := hid (Below.on HBW.out hb5)
    go_wp2
    go_ret
    exact ⟨rfl, HB5.out⟩
  have e4 : decide ((6 : Int) < n4) = false := decide_eq_false (by omega)
  have HAF : Hid (0 < n1 → ∀ x, a1 = some x → x.block < w.heap.size) := fun hn x hx => by
    obtain ⟨bb, oo, e3, h4, _⟩ := HA.out.pl hn
    rw [hx] at e3
    cases e3
    exact h4
  have HZF : Hid (0 < n2 → ∀ x, a2 = some x → x.block < w.heap.size) := fun hn x hx => by
    obtain ⟨bb, oo, e3, h4, _⟩ := HZ.out.pl hn
    rw [hx] at e3
    cases e3
    exact h4
  go_wp2_with fail
  refine (pall_any HCV.out a0 hc a1 n1 c1 l1 (HA.out.on HBW.out) HAI.out (fun hn x hx => by have := HAF.out hn x hx; omega) ai ni ci hs (HGI.out.on HB3.out) (HGI.out.low (fun k hk => by simp only [List.mem_cons, List.not_mem_nil, or_false] at hk; omega)) HNI.out).mono ?_
  rintro e x6 ⟨rfl, hC6, hk6⟩
  have HC6 := hid hC6
  have HB6 := hid (bel_kp HBW.out hk6 HBW.out.size (fun k hk => by simp only [List.mem_cons, List.not_mem_nil, or_false] at hk; omega))
  have HB16 := hid (bel_kp HB3.out hk6 HB3.out.size (fun k hk => by simp only [List.mem_cons, List.not_mem_nil, or_false] at hk; omega))
  clear hC6 hk6 HCV HBW HB3
  have hLL : (pnc W a0 [ara W H] l1 (hs.map gcl) (List.replicate (W * H) 0)).length = W * H := by rw [pnc_length]; simp
  generalize pnc W a0 [ara W H] l1 (hs.map gcl) (List.replicate (W * H) 0) = L at HC6 hLL
  have hpl := HC6.out.lt
  go_wp2_with fail
  refine (ccopy_any HC6.out).mono ?_
  rintro e x7 ⟨p2, b2, rfl, hb7, hC7, hp2, hb2⟩
  have HC7 := hid (HC6.out.on hb7)
  have HW7 := hid hC7
  have HB7 := hid (Below.on HB6.out hb7)
  have HB17 := hid (Below.on HB16.out hb7)
  have hpl2 := hC7.lt
  clear hb7 hC7 HC6 HB6 HB16
  go_wp2_with fail
  refine (ccopy_any HC7.out).mono ?_
  rintro e x8 ⟨p3, b3, rfl, hb8, hC8, hp3, hb3⟩
  have hs7 := HB7.out.size
  have HD8 : Hid (Duo w x8 p b p3 b3 W H L L) := ⟨HC7.out.on hb8, hC8, by omega, by omega, by omega, by omega, by omega, Below.on HB7.out hb8⟩
  have HW8 := hid (HW7.out.on hb8)
  have HB18 := hid (Below.on HB17.out hb8)
  clear hb8 hC8 HC7 HW7 HB7 HB17
  go_wp2_with fail
  refine (pall_any HD8.out.dv a0 hc a2 n2 c2 l2 (HZ.out.on HD8.out.bel) HZI.out (fun hn x hx => by have := HZF.out hn x hx; omega) ai ni ci hs (HGI.out.on HB18.out) (HGI.out.low (fun k hk => by simp only [List.mem_cons, List.not_mem_nil, or_false] at hk; omega)) HNI.out).mono ?_
  rintro e x9 ⟨rfl, hC9, hk9⟩
  have HD9 := hid (HD8.out.two hk9 hC9)
  have HW9 := hid (HW8.out.kept hk9 (by simp only [List.mem_singleton]; omega) (by simp only [List.mem_singleton]; omega))
  have HB19 := hid (bel_kp HB18.out hk9 HB18.out.size (fun k hk => by simp only [List.mem_cons, List.not_mem_nil, or_false] at hk; omega))
  clear hC9 hk9 HD8 HW8 HB18
  go_wp2_with fail
  refine (qpart_any HD9.out.cv a0 hc a2 n2 c2 l2 (HZ.out.on HD9.out.bel) HZI.out (fun hn x hx => by have := HZF.out hn x hx; omega) ai ni ci hs (HGI.out.on HB19.out) (HGI.out.low (fun k hk => by simp only [List.mem_cons, List.not_mem_nil, or_false] at hk; omega)) HNI.out a4 n4 c4 cl (HC.out.on HD9.out.bel) (by omega)).mono ?_
  rintro e x10 ⟨rfl, hC10, hk10⟩
  have HD10 := hid (HD9.out.one hk10 hC10)
  have HW10 := hid (HW9.out.kept hk10 (by simp only [List.mem_singleton]; omega) (by simp only [List.mem_singleton]; omega))
  clear hC10 hk10 HD9 HW9 HB19
  have HQ : Hid (∀ u v : Nat, u < W → v < H → atv W H (pnc W a0 cl l2 (hs.map gcl) L) u v = if inC cl u v = true then atv W H (pnc W a0 [ara W H] l2 (hs.map gcl) L) u v else atv W H L u v) := fun u v hu hv => atv_part hW1 hH1 hLL hu hv
  generalize pnc W a0 cl l2 (hs.map gcl) L = K at HQ HD10
  generalize pnc W a0 [ara W H] l2 (hs.map gcl) L = M at HQ HD10
  have HCX := hid (HC.out.on HD10.out.bel)
  clear HA HZ HAI HZI HC HGI HNI HAF HZF hLL eW eH
  go_wp2
  go_loopw [17] (fun t wr => ∃ j : Nat, t = .int .i64 j ∧ j ≤ 8 ∧ RowKit.Below x10.heap.size x10 wr) (fun t _ => 8 - (numOf t).toNat)
  case atStart => exact ⟨0, rfl, by omega, Below.refl _ _⟩
  case round =>
    obtain ⟨j, rfl, hj, hB⟩ := hrel
    have HB11 := hid hB
    clear hB
    by_cases hgj : j < 8
    · have t1 : decide ((j : Int) < 8) = true := decide_eq_true (by omega)
      obtain ⟨x11, rfl⟩ : ∃ x, x = wr := ⟨_, rfl⟩
      go_wp2
      go_loopw [18] (fun t wr => ∃ i : Nat, t = .int .i64 i ∧ i ≤ 11 ∧ RowKit.Below x10.heap.size x10 wr) (fun t _ => 11 - (numOf t).toNat)
      case atStart => exact ⟨0, rfl, by omega, HB11.out⟩
      case round =>
        obtain ⟨i, rfl, hi, hB⟩ := hrel
        have HB12 := hid hB
        clear hB HB11
        by_cases hgi : i < 11
        · have t2 : decide ((i : Int) < 11) = true := decide_eq_true (by omega)
          have HQ2 := hid (HQ.out i j (by omega) (by omega))
          have hiI : I64 (i : Int) := by rw [I64]; omega
          have hjI : I64 (j : Int) := by rw [I64]; omega
          obtain ⟨z, HZ⟩ : ∃ z, Hid (atv W H L i j = z) := ⟨_, rfl⟩
          obtain ⟨f, HF⟩ : ∃ f, Hid (atv W H M i j = f) := ⟨_, rfl⟩
          rw [HZ.out, HF.out] at HQ2
          go_wp2_with fail
          refine (at_any (HW10.out.on HB12.out) i j hiI hjI).mono ?_
          rintro e y1 ⟨rfl, hb1⟩
          rw [HZ.out]
          have HB13 := hid (Below.on HB12.out hb1)
          clear hb1 HB12
          have CI := hid (rin14_any a4 n4 c4 cl y1 (HCX.out.on HB13.out) i j hiI hjI)
          go_wp2_with fail
          refine CI.out.mono ?_
          rintro e y2 ⟨rfl, hb2⟩
          have HB14 := hid (Below.on HB13.out hb2)
          clear hb2 HB13 CI
          cases hq : inC cl i j
          · rw [hq, if_neg (by decide)] at HQ2
            have n1 : (z != z) = false := by simp
            go_wp2_with fail
            refine (at_any (HD10.out.cv.on HB14.out) i j hiI hjI).mono ?_
            rintro e y3 ⟨rfl, hb3⟩
            rw [HQ2.out]
            have HB15 := hid (Below.on HB14.out hb3)
            clear hb3 HB14 HQ2
            go_wp2
            go_roundw
            case rel => exact ⟨i + 1, by go_num, by omega, HB15.out⟩
            case measure => simp [numOf]; omega
          · rw [hq, if_pos rfl] at HQ2
            have n1 : (f != f) = false := by simp
            go_wp2_with fail
            refine (at_any (HD10.out.dv.on HB14.out) i j hiI hjI).mono ?_
            rintro e y3 ⟨rfl, hb3⟩
            rw [HF.out]
            have HB15 := hid (Below.on HB14.out hb3)
            clear hb3 HB14
            go_wp2_with fail
            refine (at_any (HD10.out.cv.on HB15.out) i j hiI hjI).mono ?_
            rintro e y4 ⟨rfl, hb4⟩
            rw [HQ2.out]
            have HB16 := hid (Below.on HB15.out hb4)
            clear hb4 HB15 HQ2
            go_wp2
            go_roundw
            case rel => exact ⟨i + 1, by go_num, by omega, HB16.out⟩
            case measure => simp [numOf]; omega
        · have t2 : decide ((i : Int) < 11) = false := decide_eq_false (by omega)
          go_wp2
          go_roundw
          case rel => exact ⟨j + 1, by go_num, by omega, HB12.out⟩
          case measure => simp [numOf]; omega
    · have t1 : decide ((j : Int) < 8) = false := decide_eq_false (by omega)
      go_wp2_with fail
      refine (qawake24_any _).mono ?_
      rintro e y9 ⟨rfl, hb9⟩
      have HB12 := hid (Below.on (Below.on HD10.out.bel HB11.out) hb9)
      go_wp2
      go_ret
      exact ⟨rfl, HB12.out⟩
end Go.Proofs.YtlkodgmnhphfcaaGreatDoor.repaintClips
