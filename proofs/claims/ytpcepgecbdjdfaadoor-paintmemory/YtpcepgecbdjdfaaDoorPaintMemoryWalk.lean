/- PaintMemory: for every four numbers and colours the call returns true; nothing that was there has turned. Written by paint/mk_memory.py. -/
import Derived.Test.YtpcepgecbdjdfaaDoorBj
import Derived.Test.YtpcepgecbdjdfaaDoorBh
import Derived.LaidMore
namespace Go.Proofs.YtpcepgecbdjdfaaDoor.paintMemory
open Go Go.RowKit

/-- What is seen of the image at 1, 1. -/
theorem seen_in {p q : Nat} {pix : List Int} {i j : Nat} {z : Int} (hp : 1 ≤ p ∧ p ≤ 6) (hq : 1 ≤ q ∧ q ≤ 6) (hi : i < p) (hj : j < q) (hz : pix[j * p + i]? = some (ful z)) :
    atv 8 8 (pnc 8 1 [ara 8 8] [[2, 3, 1, 1, (p : Int), (q : Int)]] [⟨3, p, q, pix⟩] (List.replicate 64 0)) (1 + (i : Int)) (1 + (j : Int)) = ful z := by
  rw [show (1 : Int) + (i : Int) = ((1 + i : Nat) : Int) by omega, show (1 : Int) + (j : Int) = ((1 + j : Nat) : Int) by omega]
  refine atv_at (by omega) (by omega) ?_
  rw [pnc_get (by omega), List.getElem?_replicate, if_pos (by omega), Option.map_some, inC_ara (by omega) (by omega) (by omega) (by omega), if_pos rfl, List.foldl_cons, List.foldl_nil]
  have h1 : okD 1 1 p q = true := by simp only [okD, Bool.and_eq_true, decide_eq_true_eq]; omega
  have h2 : has ⟨1, 1, (p : Int), (q : Int)⟩ ((1 + i : Nat) : Int) ((1 + j : Nat) : Int) = true := has_iff.2 (by dsimp only; omega)
  have hk : kk 1 1 p ((1 + i : Nat) : Int) ((1 + j : Nat) : Int) = j * p + i := by
    have e : (((1 + j : Nat) : Int) - 1) * (p : Int) + ((1 + i : Nat) : Int) - 1 = ((j * p + i : Nat) : Int) := by
      have e2 : ((j * p + i : Nat) : Int) = (j : Int) * (p : Int) + (i : Int) := by rw [Int.natCast_add, Int.natCast_mul]
      rw [show ((1 + j : Nat) : Int) - 1 = (j : Int) by omega, e2]
      omega
    rw [kk, e, Int.toNat_natCast]
  have h3 : pto [ara 8 8] [⟨3, p, q, pix⟩] ((1 + i : Nat) : Int) ((1 + j : Nat) : Int) 1 [2, 3, 1, 1, (p : Int), (q : Int)] = gD 1 1 p pix ((1 + i : Nat) : Int) ((1 + j : Nat) : Int) 1 := by
    show (if okD 1 1 p q && (has ⟨1, 1, (p : Int), (q : Int)⟩ ((1 + i : Nat) : Int) ((1 + j : Nat) : Int) && inC [ara 8 8] ((1 + i : Nat) : Int) ((1 + j : Nat) : Int)) then gD 1 1 p pix ((1 + i : Nat) : Int) ((1 + j : Nat) : Int) 1 else 1) = _
    rw [h1, h2, inC_ara (by omega) (by omega) (by omega) (by omega)]
    rfl
  rw [h3, gD, hk, hz]
  exact congrArg some (ovr_full (ful_col z) (ful_pt z))
theorem seen_out {p q : Nat} {pix : List Int} :
    atv 8 8 (pnc 8 1 [ara 8 8] [[2, 3, 1, 1, (p : Int), (q : Int)]] [⟨3, p, q, pix⟩] (List.replicate 64 0)) 0 0 = 1 := by
  refine atv_at (i := 0) (j := 0) (by omega) (by omega) ?_
  rw [pnc_get (by omega), List.getElem?_replicate, if_pos (by omega), Option.map_some, inC_ara (by omega) (by omega) (by omega) (by omega), if_pos rfl, List.foldl_cons, List.foldl_nil]
  have h2 : has ⟨1, 1, (p : Int), (q : Int)⟩ ((0 : Nat) : Int) ((0 : Nat) : Int) = false := by
    rw [Bool.eq_false_iff]
    intro h
    have := has_iff.1 h
    dsimp only at this
    omega
  refine congrArg some ?_
  show (if okD 1 1 p q && (has ⟨1, 1, (p : Int), (q : Int)⟩ ((0 : Nat) : Int) ((0 : Nat) : Int) && inC [ara 8 8] ((0 : Nat) : Int) ((0 : Nat) : Int)) then gD 1 1 p pix ((0 : Nat) : Int) ((0 : Nat) : Int) 1 else 1) = 1
  rw [h2, Bool.false_and, Bool.and_false]
  rfl

set_option maxRecDepth 100000 in
set_option maxHeartbeats 8000000 in
theorem walk (a0 a1 a2 a3 : Int) (a4 : Option Addr) (n4 c4 : Nat) (l4 : List Int) (w : World) (w0 : (Lit.int .i64 a0).wf = true) (w1 : (Lit.int .i64 a1).wf = true) (w2 : (Lit.int .i64 a2).wf = true) (w3 : (Lit.int .i64 a3).wf = true) (w4_ : RdI .u32 w a4 n4 c4 l4) (_z4 : c4 * 4 ≤ 140737488351232) (hL : laidMetH Tryd.prog Rows.paintMemoryRow.laid w) :
    Calls Tryd.prog 7 #[.int .i64 a0, .int .i64 a1, .int .i64 a2, .int .i64 a3, .slice a4 n4 c4] w fun e w' => e = .returned (.bool true) ∧ Below w.heap.size w w' := by
  obtain ⟨es, hE⟩ := errs4q hL
  have HE := hid hE
  have HP0 : Hid (∀ u, Calls Tryd.prog 21 #[.int .i64 a0, .int .i64 6] u fun e w' => e = .returned (.int .i64 (plc a0 6 : Nat)) ∧ w' = u) := fun u => place_any a0 6 (wfi w0) (by omega) (by omega) u
  have HP1 : Hid (∀ u, Calls Tryd.prog 21 #[.int .i64 a1, .int .i64 6] u fun e w' => e = .returned (.int .i64 (plc a1 6 : Nat)) ∧ w' = u) := fun u => place_any a1 6 (wfi w1) (by omega) (by omega) u
  have HP2 : Hid (∀ u, Calls Tryd.prog 21 #[.int .i64 a2, .int .i64 4] u fun e w' => e = .returned (.int .i64 (plc a2 4 : Nat)) ∧ w' = u) := fun u => place_any a2 4 (wfi w2) (by omega) (by omega) u
  have HP3 : Hid (∀ u, Calls Tryd.prog 21 #[.int .i64 a3, .int .i64 20] u fun e w' => e = .returned (.int .i64 (plc a3 20 : Nat)) ∧ w' = u) := fun u => place_any a3 20 (wfi w3) (by omega) (by omega) u
  have b0 := plc_lt a0 6 (by omega)
  have b1 := plc_lt a1 6 (by omega)
  have b2 := plc_lt a2 4 (by omega)
  have b3 := plc_lt a3 20 (by omega)
  generalize plc a0 6 = m0 at *
  generalize plc a1 6 = m1 at *
  generalize plc a2 4 = m2 at *
  generalize plc a3 20 = m3 at *
  obtain ⟨p, hp⟩ : ∃ p, 1 + m0 = p := ⟨_, rfl⟩
  obtain ⟨q, hq⟩ : ∃ q, 1 + m1 = q := ⟨_, rfl⟩
  obtain ⟨S, hS⟩ : ∃ S, 4 * p + 4 * m2 = S := ⟨_, rfl⟩
  obtain ⟨Q, hQ⟩ : ∃ Q, 4 * m3 = Q := ⟨_, rfl⟩
  have ep : (1 : Int) + (m0 : Int) = (p : Int) := by omega
  have eq : (1 : Int) + (m1 : Int) = (q : Int) := by omega
  have eS : 4 * (p : Int) + 4 * (m2 : Int) = (S : Int) := by omega
  have eQ : 4 * (m3 : Int) = (Q : Int) := by omega
  have hp1 : 1 ≤ p ∧ p ≤ 6 := by omega
  have hq1 : 1 ≤ q ∧ q ≤ 6 := by omega
  have hS1 : 4 * p ≤ S ∧ S ≤ 36 := by omega
  have hQ1 : Q ≤ 76 := by omega
  obtain ⟨N, hN⟩ : ∃ N, p * q = N := ⟨_, rfl⟩
  have hNs : N ≤ 36 := by rw [← hN]; exact Nat.mul_le_mul hp1.2 hq1.2
  have eN : (p : Int) * (q : Int) = (N : Int) := by rw [← hN, Int.natCast_mul]
  have HNN := hid hN
  have HR := hid w4_
  have h4 := w4_.len
  have h4c := w4_.le
  have h4m := w4_.max
  simp only [maxLen] at h4m
  clear w0 w1 w2 w3 w4_ _z4 hL hE hN hp hq hS hQ b0 b1 b2 b3
  go_enter Tryd.func7, Tryd.ntmps7
  go_wp2_with fail
  refine (HP0.out _).mono ?_
  rintro e x1 ⟨rfl, hx1⟩
  obtain rfl : w = x1 := hx1.symm
  go_wp2_with fail
  refine (HP1.out _).mono ?_
  rintro e x1 ⟨rfl, hx1⟩
  obtain rfl : w = x1 := hx1.symm
  go_wp2_with fail
  refine (HP2.out _).mono ?_
  rintro e x1 ⟨rfl, hx1⟩
  obtain rfl : w = x1 := hx1.symm
  go_wp2_with fail
  refine (HP3.out _).mono ?_
  rintro e x1 ⟨rfl, hx1⟩
  obtain rfl : w = x1 := hx1.symm
  clear HP0 HP1 HP2 HP3
  go_wp2_with fail
  refine (msnew w).mono ?_
  rintro e x1 ⟨rfl, hM⟩
  have HM := hid hM
  clear hM
  have CS := hid (HM.out.setok HE.out.e3 5 1000 (by decide) (by decide))
  rw [show ((1000 : Nat) : Int) = 1000 by omega] at CS
  go_wp2_with fail
  refine CS.out.mono ?_
  rintro e x2 ⟨rfl, hM2, _⟩
  obtain ⟨s0, hs0⟩ : ∃ s, s = mupd (fun _ => none) 5 (some (x1.heap.size, rsz (by_ none) 1000)) := ⟨_, rfl⟩
  rw [← hs0] at hM2
  have HM2 := hid hM2
  have HS0 : Hid (s0 5 = some (x1.heap.size, rsz [] 1000)) := by rw [Hid, hs0, mupd_same]; rfl
  have HWT : Hid (Wt l4 Q S p 0 (rsz [] 1000)) := ⟨rsz_length _ _, fun k hk => absurd hk (by omega)⟩
  clear hM2 hs0 CS HM
  obtain ⟨g, hg⟩ : ∃ g, x1.heap.size = g := ⟨_, rfl⟩
  rw [hg] at HS0
  clear hg
  obtain ⟨pm, hpm⟩ : ∃ pm, w.heap.size + 1 = pm := ⟨_, rfl⟩
  rw [hpm] at HM2 ⊢
  clear hpm
  by_cases hn : n4 < N
  · have e1 : decide ((n4 : Int) < N) = true := decide_eq_true (by omega)
    have HB2 := hid HM2.out.bel
    clear HM2 HS0 HWT
    go_wp2_with fail
    refine (pawake23_any _).mono ?_
    rintro e x5 ⟨rfl, hb5⟩
    have HB5 := hid (Below.on HB2.out hb5)
    go_wp2
    go_ret
    exact ⟨rfl, HB5.out⟩
  have e1 : decide ((n4 : Int) < N) = false := decide_eq_false (by omega)
  have HIN : Hid (∀ j i, j < q → i < p → j * p + i < N) := fun j i hj hi => by
    rw [← HNN.out, Nat.mul_comm p q]
    have := Nat.mul_le_mul_right p (show j + 1 ≤ q from hj)
    rw [Nat.add_mul, Nat.one_mul] at this
    omega
  have HSJ : Hid (∀ j, j < q → S * j ≤ 216) := fun j hj => Nat.le_trans (Nat.mul_le_mul hS1.2 (show j ≤ 6 by omega)) (by omega)
  have HZ : Hid (∀ k, k < N → ∃ b' off z, a4 = some ⟨b', off, none⟩ ∧ b' < w.heap.size ∧ l4[k]? = some ((z : Nat) : Int) ∧ z < 4294967296 ∧ w.cell? ⟨b', off + k, none⟩ = some (.int .u32 ((z : Nat) : Int))) := fun k hk => by
    obtain ⟨b', off, e, hb, hc⟩ := HR.out.plain (by omega)
    have hkl : k < l4.length := by omega
    have hcol := col_of HR.out (List.getElem_mem hkl)
    have hcc := hc k hkl
    rw [List.getD, List.getElem?_eq_getElem hkl, Option.getD_some] at hcc
    unfold Col at hcol
    refine ⟨b', off, (l4[k]).toNat, e, hb, ?_, by omega, ?_⟩
    · rw [List.getElem?_eq_getElem hkl, Int.toNat_of_nonneg hcol.1]
    · rw [Int.toNat_of_nonneg hcol.1]
      exact hcc
  clear HR h4 h4c
  go_wp2
  go_loopw [16] (fun v wr => ∃ (j : Nat) (s : Int → Mo) (B : List UInt8), v = .int .i64 j ∧ j ≤ q ∧ Ms w wr pm w.heap.size s ∧ s 5 = some (g, B) ∧ Wt l4 Q S p (j * p) B) (fun v _ => q - (numOf v).toNat)
  case atStart => exact ⟨0, s0, _, rfl, by omega, HM2.out, HS0.out, by rw [Nat.zero_mul]; exact HWT.out⟩
  case round =>
    obtain ⟨j, s, B, rfl, hj, hM, hs5, hW⟩ := hrel
    have HM := hid hM
    have HS5 := hid hs5
    have HW := hid hW
    clear hM hs5 hW HM2 HS0 HWT
    by_cases hgo : j < q
    · have e2 : decide ((j : Int) < q) = true := decide_eq_true (by omega)
      go_wp2
      go_loopw [17] (fun v wr => ∃ (i : Nat) (s : Int → Mo) (B : List UInt8), v = .int .i64 i ∧ i ≤ p ∧ Ms w wr pm w.heap.size s ∧ s 5 = some (g, B) ∧ Wt l4 Q S p (j * p + i) B) (fun v _ => p - (numOf v).toNat)
      case atStart => exact ⟨0, s, B, rfl, by omega, HM.out, HS5.out, HW.out⟩
      case round =>
        obtain ⟨i, s2, B2, rfl, hi, hM, hs5, hW⟩ := hrel
        have HM2 := hid hM
        have HS2 := hid hs5
        have HW2 := hid hW
        clear hM hs5 hW HM HS5 HW
        by_cases hgi : i < p
        · have e3 : decide ((i : Int) < p) = true := decide_eq_true (by omega)
          have hkN := HIN.out j i hgo hgi
          obtain ⟨b', off, z, rfl, hb', hz, hzb, hcz⟩ := HZ.out _ hkN
          have hsj := HSJ.out j hgo
          have HN1 := hid (HW2.out.next hgi hS1.1 (by omega) hz hzb)
          obtain ⟨jp, hjp⟩ : ∃ jp, j * p = jp := ⟨_, rfl⟩
          obtain ⟨sj, hsj2⟩ : ∃ sj, S * j = sj := ⟨_, rfl⟩
          rw [hsj2] at hsj
          have p1 : (j : Int) * (p : Int) = (jp : Int) := by rw [← hjp, Int.natCast_mul]
          have p2 : (S : Int) * (j : Int) = (sj : Int) := by rw [← hsj2, Int.natCast_mul]
          obtain ⟨k, hk⟩ : ∃ k, jp + i = k := ⟨_, rfl⟩
          have p3 : (jp : Int) + (i : Int) = (k : Int) := by omega
          obtain ⟨P, hP⟩ : ∃ P, Q + sj + 4 * i = P := ⟨_, rfl⟩
          have hPb : P + 4 ≤ 1000 := by omega
          have p4 : (Q : Int) + (sj : Int) + 4 * (i : Int) = (P : Int) := by omega
          rw [hjp, hk] at hkN hz hcz
          rw [hsj2, hP] at HN1
          have hkn : (k : Int) < n4 := by omega
          have cz : wr.cell? ⟨b', off + k, none⟩ = some (.int .u32 (z : Int)) := by rw [HM2.out.bel.cell hb']; exact hcz
          have hb1 := bel_new wr (.cells #[.int .u8 ((z : Int) % 256), .int .u8 ((z : Int) / 256 % 256), .int .u8 ((z : Int) / 65536 % 256), .int .u8 ((z : Int) / 16777216)] 5)
          have hRd := rd_w4 wr z ((z : Int) % 256) ((z : Int) / 256 % 256) ((z : Int) / 65536 % 256) ((z : Int) / 16777216) (by rw [dg, Nat.pow_zero, Nat.div_one]; omega) (by rw [dg, Nat.pow_one]; omega) (by rw [dg, show (256 : Nat) ^ 2 = 65536 from rfl]; omega) (by rw [dg, show (256 : Nat) ^ 3 = 16777216 from rfl]; omega) 5 (0, 0)
          have CW := hid ((HM2.out.on hb1).writeok HE.out.e3 5 P (by decide) _ 4 4 (w4 z) hRd g _ HS2.out (by rw [HW2.out.len]; omega))
          have HKE : Hid (j * p + (i + 1) = j * p + i + 1) := by rw [Hid]; omega
          clear hb1 hRd HM2 HS2 HW2 hcz hz hjp hsj2 hk hP
          go_wp2_with fail
          refine CW.out.mono ?_
          rintro e x3 ⟨rfl, hM, _⟩
          have HM3 := hid hM
          clear CW hM
          go_wp2
          go_roundw
          case rel => exact ⟨i + 1, _, _, by go_num, by omega, HM3.out, mupd_same _ _ _, by rw [HKE.out]; exact HN1.out⟩
          case measure => simp [numOf]; omega
        · have e3 : decide ((i : Int) < p) = false := decide_eq_false (by omega)
          obtain rfl : p = i := by omega
          go_wp2
          go_roundw
          case rel => exact ⟨j + 1, s2, B2, by go_num, by omega, HM2.out, HS2.out, by rw [Nat.add_mul, Nat.one_mul]; exact HW2.out⟩
          case measure => simp [numOf]; omega
    · have e2 : decide ((j : Int) < q) = false := decide_eq_false (by omega)
      obtain rfl : q = j := by omega
      have hby : by_ (s 5) = B := by rw [HS5.out]; rfl
      have hrm : rmE 65536 Q p q S 1 = 0 := by
        have h1 : S * q ≤ 36 * 6 := Nat.mul_le_mul hS1.2 hq1.2
        have h2 : (S : Int) * (q : Int) = ((S * q : Nat) : Int) := by rw [Int.natCast_mul]
        rw [rmE, if_neg (by omega), if_neg (by rw [h2]; omega)]
      have CL := hid (pload_any w.heap.size wr pm w.heap.size s HM.out.mm es (HE.out.below HM.out.bel).fmt (HE.out.below HM.out.bel).e3.stride 3 5 Q p q S 1 (by rw [I64]; decide) (by rw [I64]; omega) (by rw [I64]; omega) (by rw [I64]; omega) (by rw [I64]; omega) (by rw [I64]; decide))
      rw [hby] at CL
      have HBw := hid HM.out.bel
      have HPX : Hid (∀ k, k < N → ∀ z, l4[k]? = some z → (ldL B Q S p 1 N)[k]? = some (ful z)) := fun k hk z hz => by
        rw [ldL, List.getElem?_map, List.getElem?_range hk, Option.map_some, ldP, HW.out.at_ k (by rw [Nat.mul_comm, HNN.out]; exact hk), List.getD, hz, Option.getD_some, lod_ful]
      clear hby HM HS5 HW
      go_wp2_with fail
      refine CL.out.mono ?_
      rintro e x3 ⟨W', H', a, n, c, l, rfl, hb3, hR3, hn3, hif⟩
      rw [if_pos hrm] at hif
      obtain ⟨rfl, rfl, hl⟩ := hif
      simp only [Int.toNat_natCast] at hl
      rw [HNN.out] at hl
      subst hl
      obtain rfl : N = n := by have := hR3.len; rw [ldL_length] at this; exact this
      have HR3 := hid hR3
      have hB3 := Below.on HBw.out hb3
      have hwx3 : w.heap.size ≤ x3.heap.size := hB3.size
      have HI3 := hid (bk_new x3 #[.int .i64 3, .int .i64 p, .int .i64 q, .slice a N c] 43)
      have hx3 := bel_new x3 (.cells #[.int .i64 3, .int .i64 p, .int .i64 q, .slice a N c] 43)
      have HB4 := hid (Below.on hB3 hx3)
      have HR4 := hid (hR3.on hx3)
      clear hR3 hn3 hb3 hB3 hx3 HR3 CL HBw hrm
      go_wp2_with fail
      refine (show Calls Tryd.prog 22 #[.int .i64 8, .int .i64 8] _ (Own 93 _ 8 8 (List.replicate 64 0) fun v => .tuple #[v, .nilIface]) from cnew_any _ 8 8 (by omega) (by omega)).mono ?_
      rintro e x4 ⟨pc, bc_, rfl, hb4, hC4, hpc, hbc⟩
      have HI4 := hid (HI3.out.on hb4)
      have HB5 := hid (Below.on HB4.out hb4)
      have HR5 := hid (HR4.out.on hb4)
      have HC4 := hid hC4
      have hltc := hC4.lt
      have hlti := HI3.out.lt
      have HRA : Hid (∀ x, 0 < N → a = some x → x.block < x3.heap.size + 1) := fun x hN hx => by
        obtain ⟨b9, o9, e9, h9, _⟩ := HR4.out.plain hN
        rw [hx] at e9
        cases e9
        rwa [size_new] at h9
      have hbc2 : x3.heap.size + 1 ≤ bc_ := by rwa [size_new] at hbc
      clear hb4 hC4 HI3 HB4 HR4 hpc hbc
      have hlt34 : x3.heap.size < x4.heap.size := HI4.out.lt
      have hi0 := HI4.out.cell 0
      have hi1 := HI4.out.cell 1
      have hi2 := HI4.out.cell 2
      have hi3 := HI4.out.cell 3
      have hv1 := bel_new x4 (.cells #[.int .i64 2, .int .i64 3, .int .i64 1, .int .i64 1, .int .i64 p, .int .i64 q] 74)
      have hv2 := bk_new x4 #[.int .i64 2, .int .i64 3, .int .i64 1, .int .i64 1, .int .i64 p, .int .i64 q] 74
      obtain ⟨U1, hU1⟩ : ∃ U1, U1 = x4.alloc (.cells #[.int .i64 2, .int .i64 3, .int .i64 1, .int .i64 1, .int .i64 p, .int .i64 q] 74) := ⟨_, rfl⟩
      have hsU1 : U1.heap.size = x4.heap.size + 1 := by rw [hU1, size_new]
      rw [← hU1] at hv1 hv2
      have hg1 := bel_new U1 (.cells #[.int .i64 3, .int .i64 p, .int .i64 q, .slice a N c] 43)
      have hg2 := bk_new U1 #[.int .i64 3, .int .i64 p, .int .i64 q, .slice a N c] 43
      rw [hsU1] at hg2
      obtain ⟨U2, hU2⟩ : ∃ U2, U2 = U1.alloc (.cells #[.int .i64 3, .int .i64 p, .int .i64 q, .slice a N c] 43) := ⟨_, rfl⟩
      rw [← hU2] at hg1 hg2
      have hbU := Below.on hv1 hg1
      have HV := hid (rdm_one (hv2.on hg1))
      have HGv := hid (rdg_one (g := ⟨3, p, q, a, N, c, ldL B Q S p 1 N⟩) hg2 ⟨by dsimp only; rw [I64]; decide, by dsimp only; rw [I64]; omega, by dsimp only; rw [I64]; omega, HR5.out.on hbU⟩)
      have HCU := hid (HC4.out.on hbU)
      have HIU := hid (HI4.out.on hbU)
      have HBU := hid (Below.on HB5.out hbU)
      rw [hU1] at hU2
      have HU2 := hid hU2
      clear hv1 hv2 hg1 hg2 hbU hU1 hU2 HC4 HI4 HB5 HR5
      go_wp2_with fail
      rw [← HU2.out]
      refine (pall_any HCU.out 1 (by rw [Col]; decide) _ 1 1 _ HV.out (fun y hy z hz => by
        rw [List.mem_singleton.1 hy] at hz
        have : z = 2 ∨ z = 3 ∨ z = 1 ∨ z = 1 ∨ z = p ∨ z = q := by simpa using hz
        rw [I64]
        omega) (fun _ x hx => by cases hx; dsimp only; omega) _ 1 1 _ HGv.out ⟨fun _ x hx => by cases hx; simp only [List.mem_cons, List.not_mem_nil, or_false]; omega, fun g' hg' hn' x hx => by
          rw [List.mem_singleton.1 hg'] at hx hn'
          have := HRA.out x hn' hx
          simp only [List.mem_cons, List.not_mem_nil, or_false]
          omega⟩ (fun g' hg' => by rw [List.mem_singleton.1 hg']; dsimp only; omega)).mono ?_
      rintro e x5 ⟨rfl, hC5, hk5⟩
      rw [show List.map gcl [⟨3, p, q, a, N, c, ldL B Q S p 1 N⟩] = [⟨3, p, q, ldL B Q S p 1 N⟩] from rfl] at hC5
      have HI5 := hid (HIU.out.kp hk5 (by simp only [List.mem_cons, List.not_mem_nil, or_false]; omega))
      have HB6 := hid (bel_kp HBU.out hk5 HBU.out.size (fun k hk => by simp only [List.mem_cons, List.not_mem_nil, or_false] at hk; omega))
      have HAT : Hid (∀ j i z, j < q → i < p → l4[j * p + i]? = some z → atv 8 8 (pnc 8 1 [ara 8 8] [[2, 3, 1, 1, (p : Int), (q : Int)]] [⟨3, p, q, ldL B Q S p 1 N⟩] (List.replicate 64 0)) (1 + (i : Int)) (1 + (j : Int)) = ful z) := fun j i z hj hi hz => seen_in hp1 hq1 hi hj (HPX.out _ (HIN.out j i hj hi) z hz)
      have HA0 : Hid (atv 8 8 (pnc 8 1 [ara 8 8] [[2, 3, 1, 1, (p : Int), (q : Int)]] [⟨3, p, q, ldL B Q S p 1 N⟩] (List.replicate 64 0)) 0 0 = 1) := seen_out
      obtain ⟨L, hLL⟩ : ∃ L, pnc 8 1 [ara 8 8] [[2, 3, 1, 1, (p : Int), (q : Int)]] [⟨3, p, q, ldL B Q S p 1 N⟩] (List.replicate 64 0) = L := ⟨_, rfl⟩
      rw [hLL] at hC5 HAT HA0
      have HC5 := hid hC5
      clear hC5 hk5 hLL HV HGv HCU HIU HBU HU2 HPX HRA
      go_wp2
      go_loopw [22] (fun v wr => ∃ j : Nat, v = .int .i64 j ∧ j ≤ q ∧ Cv 93 wr pc bc_ 8 8 L ∧ Bk wr x3.heap.size 43 #[.int .i64 3, .int .i64 p, .int .i64 q, .slice a N c] ∧ RowKit.Below w.heap.size w wr) (fun v _ => q - (numOf v).toNat)
      case atStart => exact ⟨0, rfl, by omega, HC5.out, HI5.out, HB6.out⟩
      case round =>
        obtain ⟨j, rfl, hj', hC, hI, hB⟩ := hrel
        have HC := hid hC
        have HI := hid hI
        have HB := hid hB
        clear hC hI hB HC5 HI5 HB6
        by_cases hgj : j < q
        · have e4 : decide ((j : Int) < q) = true := decide_eq_true (by omega)
          go_wp2
          go_loopw [23] (fun v wr => ∃ i : Nat, v = .int .i64 i ∧ i ≤ p ∧ Cv 93 wr pc bc_ 8 8 L ∧ Bk wr x3.heap.size 43 #[.int .i64 3, .int .i64 p, .int .i64 q, .slice a N c] ∧ RowKit.Below w.heap.size w wr) (fun v _ => p - (numOf v).toNat)
          case atStart => exact ⟨0, rfl, by omega, HC.out, HI.out, HB.out⟩
          case round =>
            obtain ⟨i, rfl, hi', hC, hI, hB⟩ := hrel
            have HC2 := hid hC
            have HI2 := hid hI
            have HB2 := hid hB
            clear hC hI hB HC HI HB
            by_cases hgi : i < p
            · have e5 : decide ((i : Int) < p) = true := decide_eq_true (by omega)
              have hkN := HIN.out j i hgj hgi
              obtain ⟨b', off, z, rfl, hb', hz, hzb, hcz⟩ := HZ.out _ hkN
              have hat := HAT.out j i _ hgj hgi hz
              have hor := or_ful (u := (z : Int)) ⟨by omega, by omega⟩
              obtain ⟨F, hF⟩ : ∃ F, ful (z : Int) = F := ⟨_, rfl⟩
              rw [hF] at hat hor
              have hne : (F != F) = false := by simp
              obtain ⟨jp, hjp⟩ : ∃ jp, j * p = jp := ⟨_, rfl⟩
              have p1 : (j : Int) * (p : Int) = (jp : Int) := by rw [← hjp, Int.natCast_mul]
              obtain ⟨k, hk⟩ : ∃ k, jp + i = k := ⟨_, rfl⟩
              have p3 : (jp : Int) + (i : Int) = (k : Int) := by omega
              rw [hjp, hk] at hkN hcz
              have hkn : (k : Int) < n4 := by omega
              have g1 : IntKind.i64.wrap (jp : Int) = (jp : Int) := by rw [IntKind.wrap_i64]; omega
              have g2 : IntKind.i64.wrap ((jp : Int) + (i : Int)) = (k : Int) := by rw [IntKind.wrap_i64]; omega
              have g3 : IntKind.i64.wrap (1 + (i : Int)) = 1 + (i : Int) := by rw [IntKind.wrap_i64]; omega
              have g4 : IntKind.i64.wrap (1 + (j : Int)) = 1 + (j : Int) := by rw [IntKind.wrap_i64]; omega
              have g5 : IntKind.i64.wrap (k : Int) = (k : Int) := by rw [IntKind.wrap_i64]; omega
              have g6 : (0 : Int) ≤ (k : Int) := by omega
              have HAT2 := hid hat
              have HCZ := hid hcz
              have HW : Hid (RowKit.Below wr.heap.size wr wr.drew) := (Below.refl _ _).drew
              clear hz hat hF hjp hk hcz
              go_wp2
              refine wp_region_held_drew (S := fun x => RowKit.Below w.heap.size w x) (by kernel_rfl) ?hh (fun hHeld => ?_)
              case hh => exact (HB2.out.drew)
              generalize World.drew _ = W0 at hHeld HW ⊢
              try dsimp only at hHeld
              refine wpAnyH_take (i := 0) (v := ?_) rfl (by kernel_rfl) (by kernel_rfl) (by kernel_rfl) (fun _ _ _ h => h) (Or.inl ⟨by kernel_rfl, ?hy0⟩) (by assumption) ?_
              case hy0 => (intro wI hSw; (try dsimp only at hSw); have k0 := (hSw.cell hb').trans HCZ.out; go_simp; try with_reducible rfl)
              try simp only [Act.put, List.getElem_toArray, List.getElem_cons_zero, List.setIfInBounds_toArray, List.set_cons_zero, List.set_cons_succ]
              refine wpAnyH_take (i := 1) (v := ?_) rfl (by kernel_rfl) (by kernel_rfl) (by kernel_rfl) (fun _ _ _ h => h) (Or.inl ⟨by kernel_rfl, ?hy1⟩) (by assumption) ?_
              case hy1 => (intro wI hSw; (try dsimp only at hSw); have k0 := (hSw.cell hb').trans HCZ.out; go_simp; try with_reducible rfl)
              try simp only [Act.put, List.getElem_toArray, List.getElem_cons_zero, List.getElem_cons_succ, List.setIfInBounds_toArray, List.set_cons_zero, List.set_cons_succ]
              refine wpAnyH_take (i := 2) (v := ?_) rfl (by kernel_rfl) (by kernel_rfl) (by kernel_rfl) (fun _ _ _ h => h) (Or.inl ⟨by kernel_rfl, ?hy2⟩) (by assumption) ?_
              case hy2 => (intro wI hSw; (try dsimp only at hSw); have k0 := (hSw.cell hb').trans HCZ.out; go_simp; try with_reducible rfl)
              try simp only [Act.put, List.getElem_toArray, List.getElem_cons_zero, List.getElem_cons_succ, List.setIfInBounds_toArray, List.set_cons_zero, List.set_cons_succ]
              refine wpAnyH_take (i := 3) (v := ?_) rfl (by kernel_rfl) (by kernel_rfl) (by kernel_rfl) (fun _ _ _ h => h) (Or.inl ⟨by kernel_rfl, ?hy3⟩) (by assumption) ?_
              case hy3 => (intro wI hSw; (try dsimp only at hSw); have k0 := (hSw.cell hb').trans HCZ.out; go_simp; try with_reducible rfl)
              try simp only [Act.put, List.getElem_toArray, List.getElem_cons_zero, List.getElem_cons_succ, List.setIfInBounds_toArray, List.set_cons_zero, List.set_cons_succ]
              refine wpAnyH_take (i := 4) (v := ?_) rfl (by kernel_rfl) (by kernel_rfl) (by kernel_rfl) (fun _ _ _ h => h) (Or.inl ⟨by kernel_rfl, ?hy4⟩) (by assumption) ?_
              case hy4 => (intro wI hSw; (try dsimp only at hSw); have k0 := (hSw.cell hb').trans HCZ.out; go_simp; try with_reducible rfl)
              try simp only [Act.put, List.getElem_toArray, List.getElem_cons_zero, List.getElem_cons_succ, List.setIfInBounds_toArray, List.set_cons_zero, List.set_cons_succ]
              refine wpAnyH_take (i := 6) (v := ?_) rfl (by kernel_rfl) (by kernel_rfl) (by kernel_rfl) (fun _ _ _ h => h) (Or.inl ⟨by kernel_rfl, ?hy6⟩) (by assumption) ?_
              case hy6 => (intro wI hSw; (try dsimp only at hSw); have k0 := (hSw.cell hb').trans HCZ.out; go_simp; try with_reducible rfl)
              try simp only [Act.put, List.getElem_toArray, List.getElem_cons_zero, List.getElem_cons_succ, List.setIfInBounds_toArray, List.set_cons_zero, List.set_cons_succ]
              refine wpAnyH_take (i := 7) (v := ?_) rfl (by kernel_rfl) (by kernel_rfl) (by kernel_rfl) (fun _ _ _ h => h) (Or.inl ⟨by kernel_rfl, ?hy7⟩) (by assumption) ?_
              case hy7 => (intro wI hSw; (try dsimp only at hSw); have k0 := (hSw.cell hb').trans HCZ.out; go_simp; try with_reducible rfl)
              try simp only [Act.put, List.getElem_toArray, List.getElem_cons_zero, List.getElem_cons_succ, List.setIfInBounds_toArray, List.set_cons_zero, List.set_cons_succ]
              refine wpAnyH_take (i := 8) (v := ?_) rfl (by kernel_rfl) (by kernel_rfl) (by kernel_rfl) (fun _ _ _ h => h) (Or.inl ⟨by kernel_rfl, ?hy8⟩) (by assumption) ?_
              case hy8 => (intro wI hSw; (try dsimp only at hSw); have k0 := (hSw.cell hb').trans HCZ.out; go_simp; try with_reducible rfl)
              try simp only [Act.put, List.getElem_toArray, List.getElem_cons_zero, List.getElem_cons_succ, List.setIfInBounds_toArray, List.set_cons_zero, List.set_cons_succ]
              refine wpAnyH_take (i := 9) (v := ?_) rfl (by kernel_rfl) (by kernel_rfl) (by kernel_rfl) (fun _ _ _ h => h) (Or.inl ⟨by kernel_rfl, ?hy9⟩) (by assumption) ?_
              case hy9 => (intro wI hSw; (try dsimp only at hSw); have k0 := (hSw.cell hb').trans HCZ.out; go_simp; try with_reducible rfl)
              try simp only [Act.put, List.getElem_toArray, List.getElem_cons_zero, List.getElem_cons_succ, List.setIfInBounds_toArray, List.set_cons_zero, List.set_cons_succ]
              refine wpAnyH_take (i := 10) (v := ?_) rfl (by kernel_rfl) (by kernel_rfl) (by kernel_rfl) (fun _ _ _ h => h) (Or.inl ⟨by kernel_rfl, ?hy10⟩) (by assumption) ?_
              case hy10 => (intro wI hSw; (try dsimp only at hSw); have k0 := (hSw.cell hb').trans HCZ.out; go_simp; try with_reducible rfl)
              try simp only [Act.put, List.getElem_toArray, List.getElem_cons_zero, List.getElem_cons_succ, List.setIfInBounds_toArray, List.set_cons_zero, List.set_cons_succ]
              refine wpAnyH_take (i := 11) (v := ?_) rfl (by kernel_rfl) (by kernel_rfl) (by kernel_rfl) (fun _ _ _ h => h) (Or.inl ⟨by kernel_rfl, ?hy11⟩) (by assumption) ?_
              case hy11 => (intro wI hSw; (try dsimp only at hSw); have k0 := (hSw.cell hb').trans HCZ.out; go_simp; try with_reducible rfl)
              try simp only [Act.put, List.getElem_toArray, List.getElem_cons_zero, List.getElem_cons_succ, List.setIfInBounds_toArray, List.set_cons_zero, List.set_cons_succ]
              refine wpAnyH_take (i := 12) (v := ?_) rfl (by kernel_rfl) (by kernel_rfl) (by kernel_rfl) (fun _ _ _ h => h) (Or.inl ⟨by kernel_rfl, ?hy12⟩) (by assumption) ?_
              case hy12 => (intro wI hSw; (try dsimp only at hSw); have k0 := (hSw.cell hb').trans HCZ.out; go_simp; try with_reducible rfl)
              try simp only [Act.put, List.getElem_toArray, List.getElem_cons_zero, List.getElem_cons_succ, List.setIfInBounds_toArray, List.set_cons_zero, List.set_cons_succ]
              refine wpAnyH_take (i := 13) (v := ?_) rfl (by kernel_rfl) (by kernel_rfl) (by kernel_rfl) (fun _ _ _ h => h) (Or.inl ⟨by kernel_rfl, ?hy13⟩) (by assumption) ?_
              case hy13 => (intro wI hSw; (try dsimp only at hSw); have k0 := (hSw.cell hb').trans HCZ.out; go_simp; try with_reducible rfl)
              try simp only [Act.put, List.getElem_toArray, List.getElem_cons_zero, List.getElem_cons_succ, List.setIfInBounds_toArray, List.set_cons_zero, List.set_cons_succ]
              refine wpAnyH_take (i := 14) (v := ?_) rfl (by kernel_rfl) (by kernel_rfl) (by kernel_rfl) (fun _ _ _ h => h) (Or.inl ⟨by kernel_rfl, ?hy14⟩) (by assumption) ?_
              case hy14 => (intro wI hSw; (try dsimp only at hSw); have k0 := (hSw.cell hb').trans HCZ.out; go_simp; try with_reducible rfl)
              try simp only [Act.put, List.getElem_toArray, List.getElem_cons_zero, List.getElem_cons_succ, List.setIfInBounds_toArray, List.set_cons_zero, List.set_cons_succ]
              refine wpAnyH_ready (rs := [5]) (by kernel_rfl) (by simp) ?_
              refine AllReadyH.cons rfl (fun K hK => ?_) AllReadyH.nil
              go_simp
              go_wp2_with fail
              refine (at_any (HC2.out.on HW.out) (1 + (i : Int)) (1 + (j : Int)) (by rw [I64]; omega) (by rw [I64]; omega)).mono ?_
              rintro e W5 ⟨rfl, hb5⟩
              rw [HAT2.out]
              refine hK.out _ _ (Below.on hHeld hb5) (fun _ => ?_)
              have HW5 := hid (Below.on HW.out hb5)
              have hH5 := Below.on hHeld hb5
              clear hK K hHeld hb5
              have hHeld := hH5
              clear hH5
              try simp only [Act.put, List.getElem_toArray, List.getElem_cons_zero, List.getElem_cons_succ, List.setIfInBounds_toArray, List.set_cons_zero, List.set_cons_succ]
              refine wpAnyH_take (i := 15) (v := ?_) rfl (by kernel_rfl) (by kernel_rfl) (by kernel_rfl) (fun _ _ _ h => h) (Or.inl ⟨by kernel_rfl, ?hy15⟩) (by assumption) ?_
              case hy15 => (intro wI hSw; (try dsimp only at hSw); have k0 := (hSw.cell hb').trans HCZ.out; go_simp; try with_reducible rfl)
              try simp only [Act.put, List.getElem_toArray, List.getElem_cons_zero, List.getElem_cons_succ, List.setIfInBounds_toArray, List.set_cons_zero, List.set_cons_succ]
              refine wpAnyH_done (by kernel_rfl) ?_ _
              have HB9 := hid hHeld
              clear hHeld
              go_wp2
              go_roundw
              case rel => exact ⟨i + 1, by go_num, by omega, HC2.out.on HW5.out, HI2.out.on HW5.out, HB9.out⟩
              case measure => simp [numOf]; omega
            · have e5 : decide ((i : Int) < p) = false := decide_eq_false (by omega)
              go_wp2
              go_roundw
              case rel => exact ⟨j + 1, by go_num, by omega, HC2.out, HI2.out, HB2.out⟩
              case measure => simp [numOf]; omega
        · have e4 : decide ((j : Int) < q) = false := decide_eq_false (by omega)
          have n1 : ((N : Int) == N) = true := by simp
          have HI9 := hid HI.out
          go_wp2_with fail
          refine (at_any HC.out 0 0 (by rw [I64]; decide) (by rw [I64]; decide)).mono ?_
          rintro e x6 ⟨rfl, hb6⟩
          rw [HA0.out]
          have HB7 := hid (Below.on HB.out hb6)
          have i3 := (HI9.out.on hb6).cell 3
          clear hb6
          go_wp2_with fail
          refine (pawake23_any _).mono ?_
          rintro e x7 ⟨rfl, hb7⟩
          have HB8 := hid (Below.on HB7.out hb7)
          go_wp2
          go_ret
          exact ⟨rfl, HB8.out⟩
end Go.Proofs.YtpcepgecbdjdfaaDoor.paintMemory
