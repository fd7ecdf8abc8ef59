/- Lemmas that the proof leans on. -/
import Derived.Test.YtpbgbpcdohdecaaGreatDoorB41
namespace Go.Proofs.YtpbgbpcdohdecaaGreatDoor
open Go Go.RowKit
set_option maxRecDepth 100000
set_option maxHeartbeats 2000000
section
section
variable {es : List Addr} {w0 w w' u u' : World}
theorem awake26_any (h0 : RowKit.Below w0.heap.size w0 w) (hA : All w0 es) (hE : Errs w0 gerrs es) (hG : Glb w0) (hg : 16 ≤ w0.heap.size) :
  Calls Tryz.prog 17 #[] w fun e w' => e = .returned (.bool true) ∧ Below w.heap.size w w' := by
 have HA := hid hA
 have HE := hid hE
 have HG := hid hG
 have HNW := hid (sd_new h0 hE hg 4 4 (by decide) (by decide))
 clear h0 hA hE hG hg
 go_enter Tryz.func17, Tryz.ntmps17
 go_wp2_with fail
 refine HNW.out.mono ?_
 rintro e u1 ⟨a, rfl, ha, hS⟩
 have HCN := hid (sd_conn hS ha)
 clear HNW hS ha
 go_wp2_with fail
 refine HCN.out.mono ?_
 rintro e u2 ⟨a', ha', rfl, hO, hS⟩
 have HO := hid hO
 have HNN := hid (sd_none HA.out HE.out hS hO)
 rw [ha'] at HNN
 clear HCN hO hS
 go_wp2_with fail
 refine HNN.out.mono ?_
 rintro e u3 ⟨⟨v3, rfl, hF⟩, hS⟩
 have HKD := hid (hF.kind (HE.out.below hS.low))
 have HS := hid hS
 clear HNN hF hS
 go_wp2_with fail
 refine HKD.out.mono ?_
 rintro e u4 ⟨rfl, hb4⟩
 have HS4 := hid (HS.out.on hb4)
 clear HKD hb4 HS
 go_wp2_with fail
 refine (n_any 2 u4).mono ?_
 rintro e u5 ⟨rfl, hb5⟩
 have hS5 := HS4.out.on hb5
 have hRW := raw_any 1 1 _ 1 1 l11 (rda_11 u5) (by decide) small_11 l11_put
 have HS5 := hid (hS5.on (bel_mkR u5 (.cells #[.int .u8 110, .int .i64 2, .string ⟨#[]⟩] 34)))
 have HRW := hid hRW
 clear hS5 hRW hb5 HS4
 go_wp2_with fail
 refine HRW.out.mono ?_
 rintro e u6 ⟨rfl, hb6⟩
 have hRG := sd_reg HA.out HE.out HG.out (HS5.out.on hb6) HO.out (by decide)
 rw [ha'] at hRG
 have HRG := hid hRG
 clear hRG hb6 HS5 HRW
 go_wp2_with fail
 refine HRG.out.mono ?_
 rintro e u7 ⟨rfl, hS⟩
 have hEV := sd_ev hS
 rw [ha'] at hEV
 have HEV := hid hEV
 clear HRG hS hEV
 go_wp2_with fail
 refine HEV.out.mono ?_
 rintro e u8 ⟨⟨x, c, rfl, hR⟩, hS⟩
 have HS := hid hS
 have hl : kR.ev.length = 5 := rfl
 rw [hl]
 clear hR hS HEV
 go_wp2_with fail
 go_ret
 exact ⟨rfl, HS.out.bel⟩
end
end
end Go.Proofs.YtpbgbpcdohdecaaGreatDoor
