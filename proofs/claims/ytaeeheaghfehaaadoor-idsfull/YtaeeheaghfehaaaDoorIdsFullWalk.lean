/- IdsFull: for every two numbers the call returns true; nothing that was there has turned. -/
import Derived.Test.YtaeeheaghfehaaaDoorIdsE
import Derived.LaidMore
namespace Go.Proofs.YtaeeheaghfehaaaDoor.idsFull
open Go Go.RowKit

/-- All numbers from 2 on that lie below i. -/
def sF (f i : Int) : Int → Int × Int := fun x => if 2 ≤ x ∧ x < i then (f, 3) else s0 x

theorem sF_start (f : Int) : sF f 2 = s0 := by
  funext x
  rw [sF, if_neg (by omega)]
theorem sF_at {f i : Int} (h2 : 2 ≤ i) : (sF f i i).1 = 0 := by
  rw [sF, if_neg (by omega), s0, upd_other _ (by omega)]
theorem sF_in {f i x : Int} (h2 : 2 ≤ x) (h3 : x < i) : sF f i x = (f, 3) := by rw [sF, if_pos ⟨h2, h3⟩]
theorem sF_next {f i : Int} (h2 : 2 ≤ i) : upd (sF f i) i (f, 3) = sF f (i + 1) := by
  funext x
  by_cases h : x = i
  · rw [h, upd_same, sF_in h2 (by omega)]
  · rw [upd_other _ h, sF, sF]
    by_cases hx : 2 ≤ x ∧ x < i
    · rw [if_pos hx, if_pos (by omega)]
    · rw [if_neg hx, if_neg (by omega)]
theorem sF_full {f : Int} (hf : f ≠ 0) : keysOf (sF f 256) = idl := by
  rw [keysOf, List.filter_eq_self]
  intro x hx
  have := mem_idl.1 hx
  rw [decide_eq_true_eq]
  by_cases h : 2 ≤ x
  · rw [sF_in h (by omega)]; exact hf
  · obtain rfl : x = 1 := by omega
    rw [sF, if_neg (by omega)]
    decide
theorem of_pos {s : Int → Int × Int} {k g : Int} (hk : 1 ≤ k ∧ k ≤ 255) (hg : g ≠ 0) (hs : (s k).1 = g) : 1 ≤ (ofOf s g).length := by
  have : k ∈ ofOf s g := by
    rw [ofOf, List.mem_filter, keysOf, List.mem_filter, mem_idl, decide_eq_true_eq, decide_eq_true_eq, hs]
    exact ⟨⟨hk, hg⟩, rfl⟩
  exact List.length_pos_of_mem this

set_option maxRecDepth 100000 in
set_option maxHeartbeats 1000000 in
theorem core (a face : Int) (w : World) (ha : -9223372036854775808 ≤ a ∧ a ≤ 9223372036854775807) (hf : -9223372036854775808 ≤ face ∧ face ≤ 9223372036854775807) (es : List Addr) (hE : Errs w gerrs es) :
    Calls Tryd.prog 4 #[.int .i64 a, .int .i64 face] w fun e w' => e = .returned (.bool true) ∧ Below w.heap.size w w' := by
  have HN := hid (new_any w)
  have HE := hid hE
  have HP := hid (fun u => place_any face 17 hf (by omega) (by omega) u)
  have HQ := hid (fun u => place_any a 254 ha (by omega) (by omega) u)
  obtain ⟨x5, hx5⟩ : ∃ x, erv es 5 = .iface 105 (.pointer (some x)) := ⟨_, rfl⟩
  obtain ⟨d, hd⟩ : ∃ d, d = plc face 17 := ⟨_, rfl⟩
  have hdl : d < 17 := by rw [hd]; exact plc_lt face 17 (by omega)
  obtain ⟨k0, hk0⟩ : ∃ k0, k0 = plc a 254 := ⟨_, rfl⟩
  have hkl : k0 < 254 := by rw [hk0]; exact plc_lt a 254 (by omega)
  rw [← hd] at HP
  rw [← hk0] at HQ
  clear hE hd hk0
  go_enter Tryd.func4, Tryd.ntmps4
  go_wp2_with fail
  refine HN.out.mono ?_
  rintro e w1 ⟨rfl, hb1, hT1⟩
  have HS : Hid (Ts w w1 (w.heap.size + 1) w.heap.size s0) := ⟨hT1 w.heap.size (Nat.le_refl _), hb1⟩
  clear HN hb1 hT1
  go_wp2_with fail
  refine (HP.out w1).mono ?_
  rintro e w1' ⟨rfl, rfl⟩
  go_wp2
  go_loopw [7] (fun i wr => ∃ j : Nat, i = .int .i64 j ∧ Ts w wr (w.heap.size + 1) w.heap.size (sF (1 + d) j) ∧ 2 ≤ j ∧ j ≤ 256) (fun i _ => 256 - (numOf i).toNat)
  case atStart => exact ⟨2, rfl, by rw [show ((2 : Nat) : Int) = 2 from rfl, sF_start]; exact HS.out, by omega, by omega⟩
  case round =>
    obtain ⟨j, rfl, hS, h2, h6⟩ := hrel
    by_cases hgo : j ≤ 255
    · have e1 : decide ((j : Int) ≤ 255) = true := decide_eq_true (by omega)
      have hA := hS.add HE.out j (1 + d) 3 (by omega)
      have h0 : addE (sF (1 + d) j) j (1 + d) 3 = 0 := by
        rw [addE, if_neg (by omega), if_neg (by have := sF_at (f := 1 + d) (i := j) (by omega); omega)]
      rw [addS, h0, if_pos rfl, sF_next (by omega), show erv es 0 = Value.nilIface from rfl] at hA
      have HA := hid hA
      clear hA hS h0 HS HP
      go_wp2_with fail
      refine HA.out.mono ?_
      rintro e w2 ⟨rfl, hS2, _⟩
      have hB := hS2.add HE.out j (1 + d) 3 (by omega)
      have h5 : addE (sF (1 + d) (j + 1)) j (1 + d) 3 = 5 := by
        have : (sF (1 + d) (j + 1) j).1 = 1 + d := by rw [sF_in (by omega) (by omega)]
        rw [addE, if_neg (by omega), if_pos (by omega)]
      rw [addS, h5, if_neg (by omega), hx5] at hB
      have HB := hid hB
      clear hB h5 HA
      go_wp2_with fail
      refine HB.out.mono ?_
      rintro e w3 ⟨rfl, hS3, _⟩
      have hK := hS3.kind HE.out 5 (by omega)
      rw [hx5] at hK
      have HK := hid hK
      clear hK HB
      go_wp2_with fail
      refine HK.out.mono ?_
      rintro e w4 ⟨rfl, hS4, _⟩
      go_wp2
      go_roundw
      case rel => exact ⟨j + 1, by go_num, by rw [show ((j + 1 : Nat) : Int) = (j : Int) + 1 by omega]; exact hS4, by omega, by omega⟩
      case measure => simp [numOf]; omega
    · obtain rfl : j = 256 := by omega
      have e1 : decide (((256 : Nat) : Int) ≤ 255) = false := by decide
      rw [show (((256 : Nat) : Int)) = 256 from rfl] at hS
      obtain ⟨r, hr⟩ : ∃ r, r = (1 + (d : Int)).tmod 17 := ⟨_, rfl⟩
      have hr2 : 0 ≤ r ∧ r ≤ 16 := by
        rw [hr, Int.tmod_eq_emod_of_nonneg (by omega)]
        omega
      have HR := hid hr
      obtain ⟨S, hS0⟩ : ∃ S, S = sF (1 + d) 256 := ⟨_, rfl⟩
      have HK : Hid ((keysOf S).length = 255) := by rw [Hid, hS0, sF_full (by omega), idl_len]
      have hSk : (S (2 + k0)).1 ≠ 0 := by rw [hS0, sF_in (by omega) (by omega)]; simp only; omega
      rw [← hS0] at hS
      have HS2 := hid hS
      clear hS hS0 HS HP hr
      go_wp2_with fail
      refine (HQ.out wr).mono ?_
      rintro e w2 ⟨rfl, rfl⟩
      go_wp2_with fail
      refine HS2.out.all.mono ?_
      rintro e w3 ⟨a3, c3, rfl, _, hS3, _⟩
      rw [HK.out]
      have h5 : addE S 256 (1 + d) 1 = 5 := by rw [addE, if_neg (by omega), if_pos (by omega)]
      have hA := hS3.add HE.out 256 (1 + d) 1 (by omega)
      rw [addS, h5, if_neg (by omega), hx5] at hA
      have HA := hid hA
      clear hA h5 hS3 HS2
      go_wp2_with fail
      refine HA.out.mono ?_
      rintro e w4 ⟨rfl, hS4, _⟩
      have hA := hS4.drop HE.out 1 (by omega)
      have h5 : dropE S 1 = 5 := by rw [dropE, if_pos (.inl rfl)]
      rw [dropS, h5, if_neg (by omega), hx5] at hA
      have HB := hid hA
      clear hA h5 hS4 HA
      go_wp2_with fail
      refine HB.out.mono ?_
      rintro e w5 ⟨rfl, hS5, _⟩
      have hA := hS5.drop HE.out (2 + k0) (by omega)
      have h5 : dropE S (2 + k0) = 0 := by rw [dropE, if_neg (by omega)]
      rw [dropS, h5, if_pos rfl, show erv es 0 = Value.nilIface from rfl] at hA
      have HC := hid hA
      clear hA h5 hS5 HB
      go_wp2_with fail
      refine HC.out.mono ?_
      rintro e w6 ⟨rfl, hS6, _⟩
      have hA := hS6.drop HE.out (2 + k0) (by omega)
      have h5 : dropE (upd S (2 + k0) (0, 0)) (2 + k0) = 5 := by rw [dropE, if_pos (.inr (by rw [upd_same]))]
      rw [dropS, h5, if_neg (by omega), hx5] at hA
      have HD := hid hA
      clear hA h5 hS6 HC
      go_wp2_with fail
      refine HD.out.mono ?_
      rintro e w7 ⟨rfl, hS7, _⟩
      have hA := face_any _ w7 _ _ _ hS7.tb (2 + k0) (by omega)
      rw [upd_same] at hA
      have HF := hid hA
      have HS7 := hid hS7
      clear hA hS7 HD
      go_wp2_with fail
      refine HF.out.mono ?_
      rintro e w8 ⟨rfl, rfl⟩
      have hA := HS7.out.add HE.out (2 + k0) (1 + r) 2 (by omega)
      have h5 : addE (upd S (2 + k0) (0, 0)) (2 + k0) (1 + r) 2 = 0 := by
        have := upd_same S (2 + k0) (0, 0)
        rw [addE, if_neg (by omega), if_neg (by rw [this]; simp only; omega)]
      rw [addS, h5, if_pos rfl, show erv es 0 = Value.nilIface from rfl] at hA
      have HG := hid hA
      clear hA h5 HS7 HF
      rw [HR.out] at hr2 HG
      go_wp2_with fail
      -- HERE
      refine HG.out.mono ?_
      rintro e w9 ⟨rfl, hS9, _⟩
      have hA := version_any _ w9 _ _ _ hS9.tb (2 + k0) (by omega)
      rw [upd_same] at hA
      have HV := hid hA
      have HS9 := hid hS9
      clear hA hS9 HG
      go_wp2_with fail
      refine HV.out.mono ?_
      rintro e w10 ⟨rfl, rfl⟩
      have HO := hid (HS9.out.of (1 + (1 + (d : Int)).tmod 17))
      have hlen := of_pos (s := upd (upd S (2 + k0) (0, 0)) (2 + k0) (1 + (1 + (d : Int)).tmod 17, 2)) (k := 2 + k0) (g := 1 + (1 + (d : Int)).tmod 17) (by omega) (by omega) (by rw [upd_same])
      clear HV HS9
      go_wp2_with fail
      refine HO.out.mono ?_
      rintro e w11 ⟨a11, c11, rfl, _, hS11, _⟩
      have HW := hid (hS11.awake HE.out)
      generalize (ofOf (upd (upd S (2 + k0) (0, 0)) (2 + k0) (1 + (1 + (d : Int)).tmod 17, 2)) (1 + (1 + (d : Int)).tmod 17)).length = m at hlen
      have e9 : decide ((1 : Int) ≤ m) = true := decide_eq_true (by omega)
      clear hS11 HO
      go_wp2_with fail
      refine HW.out.mono ?_
      rintro e w12 ⟨rfl, hb⟩
      go_wp2
      go_ret
      exact ⟨rfl, hb⟩

theorem walk (a : Int) (face : Int) (w : World) (ha : (Lit.int .i64 a).wf = true) (hf : (Lit.int .i64 face).wf = true) (hL : laidMetH Tryd.prog Rows.idsFullRow.laid w) :
    Calls Tryd.prog 4 #[.int .i64 a, .int .i64 face] w fun e w' => e = .returned (.bool true) ∧ Below w.heap.size w w' := by
  obtain ⟨es, hE⟩ := errs16 hL
  exact core a face w (by simpa [Lit.wf, IntKind.min, IntKind.max, IntKind.signed, IntKind.bits] using ha) (by simpa [Lit.wf, IntKind.min, IntKind.max, IntKind.signed, IntKind.bits] using hf) es hE
end Go.Proofs.YtaeeheaghfehaaaDoor.idsFull
