/- MemoryKeeps: for every slice of bytes and any two numbers the call returns true; nothing that was there has turned. -/
import Derived.Test.YtbolncddklgecaaDoorMemG
import Derived.Test.YtbolncddklgecaaDoorLibS
import Derived.Deep.DeepCutAuto
import Derived.LaidMore
namespace Go.Proofs.YtbolncddklgecaaDoor.memoryKeeps
open Go Go.RowKit

set_option maxRecDepth 100000 in
theorem long (a : Option Addr) (m c : Nat) (pa ps : Int) (w : World) (hm : 500 < m) (es : List Addr) (hE : E3 w es) :
    Calls Tryd.prog 4 #[.slice a m c, .int .i64 pa, .int .i64 ps] w fun e w' => e = .returned (.bool true) ∧ Below w.heap.size w w' := by
  have e1 : decide (500 < (m : Int)) = true := decide_eq_true (by omega)
  have HW := hid (mawake_any w es hE)
  clear hE
  go_enter Tryd.func4, Tryd.ntmps4
  go_wp2_with fail
  refine HW.out.mono ?_
  rintro e w1 ⟨rfl, hb⟩
  go_wp2
  go_ret
  exact ⟨rfl, hb⟩

set_option maxRecDepth 100000 in
set_option maxHeartbeats 4000000 in
theorem core (a : Option Addr) (m c : Nat) (bl : List UInt8) (pa ps : Int) (w : World) (hr : Rd w a m c bl) (hm : m ≤ 500) (ha : -9223372036854775808 ≤ pa ∧ pa ≤ 9223372036854775807) (hs : -9223372036854775808 ≤ ps ∧ ps ≤ 9223372036854775807) (es : List Addr) (hE : Errs w gerrs es) :
    Calls Tryd.prog 4 #[.slice a m c, .int .i64 pa, .int .i64 ps] w fun e w' => e = .returned (.bool true) ∧ Below w.heap.size w w' := by
  have HE := hid hE
  have HE3 := hid (E3.of hE)
  have HR := hid hr
  have hlen := hr.len
  have HP := hid (place_any pa 500 ha (by omega) (by omega))
  have HQ := hid (place_any ps 2000 hs (by omega) (by omega))
  have hk := plc_lt pa 500 (by omega)
  have hn := plc_lt ps 2000 (by omega)
  generalize plc pa 500 = k at *
  generalize plc ps 2000 = n at *
  have e1 : decide (500 < (m : Int)) = false := decide_eq_false (by omega)
  clear hr hE
  go_enter Tryd.func4, Tryd.ntmps4
  go_wp2_with fail
  refine (HP.out _).mono ?_
  rintro e w1 ⟨rfl, rfl⟩
  go_wp2_with fail
  refine (HQ.out _).mono ?_
  rintro e w1 ⟨rfl, rfl⟩
  go_wp2_with fail
  refine (msnew w1).mono ?_
  rintro e w2 ⟨rfl, hM⟩
  have HM := hid hM
  have HR2 := hid (HR.out.below hM.bel (fun x hx hl => rd_low HR.out x hx hl))
  clear hM HP HQ
  go_wp2_with fail
  refine (HM.out.setok HE3.out 3 1000 (by decide) (by decide)).mono ?_
  rintro e w3 ⟨rfl, hM, hk3⟩
  have HM3 := hid hM
  have HR3 := hid (HR.out.below hM.bel (fun x hx hl => rd_low HR.out x hx hl))
  clear hM HM hk3 HR2
  go_wp2_with fail
  refine (HM3.out.writeok HE3.out 3 k (by decide) a m c bl HR3.out _ _ (mupd_same _ _ _) (by rw [rsz_length]; omega)).mono ?_
  rintro e w4 ⟨rfl, hM, hk4⟩
  have HM4 := hid hM
  clear hM HM3 hk4 HR3
  go_wp2_with fail
  refine (HM4.out.setok HE3.out 3 n (by decide) (by omega)).mono ?_
  rintro e w5 ⟨rfl, hM, hk5⟩
  rw [mupd_same] at hM
  have HM5 := hid hM
  clear hM HM4 hk5
  go_wp2_with fail
  refine (HM5.out.size 3 (by decide)).mono ?_
  rintro e w6 ⟨rfl, rfl⟩
  obtain ⟨L, hL⟩ : ∃ L, L = rsz (wro (rsz [] 1000) k bl) n := ⟨_, rfl⟩
  have hLl : L.length = n := by rw [hL, rsz_length]
  have HK := hid (keeps bl k n 1000 (by omega))
  rw [← hL] at HK
  have e2 : by_ (some (w2.heap.size, wro (rsz (by_ none) 1000) k bl)) = wro (rsz [] 1000) k bl := rfl
  rw [e2, ← hL] at HM5 ⊢
  clear hL e2
  have n1 : ((n : Int) != n) = false := by simp
  rw [mupd_same, show szI (some (w4.heap.size, L)) = (n : Int) from congrArg (fun x : Nat => (x : Int)) hLl]
  go_wp2_with fail
  refine (HM5.out.readok 3 0 n (by decide) _ _ (mupd_same _ _ _) (by rw [hLl]; omega)).mono ?_
  rintro e w7 ⟨rfl, hM, hb7, hg7⟩
  rw [List.drop_zero, List.take_of_length_le (by omega)] at hg7
  have HM7 := hid hM
  have HG7 := hid hg7
  have HR7 := hid (HR.out.below hM.bel (fun x hx hl => rd_low HR.out x hx hl))
  have HL := hid hLl
  obtain ⟨g, hg⟩ : ∃ g, g = w6.heap.size := ⟨_, rfl⟩
  rw [← hg] at HG7 ⊢
  clear hM hg7 hb7 HM5 hLl hg
  go_wp2
  go_loopw [12] (fun i wr => ∃ j : Nat, i = .int .i64 j ∧ j ≤ n ∧ wr = w7) (fun i _ => n - (numOf i).toNat)
  case atStart => exact ⟨0, rfl, by omega, rfl⟩
  case round =>
    obtain ⟨j, rfl, hj, rfl⟩ := hrel
    by_cases hgo : j < n
    · have e3 : decide ((j : Int) < n) = true := decide_eq_true (by omega)
      have c1 := at_block HG7.out j (by rw [HL.out]; exact hgo)
      have hv := HK.out j hgo
      by_cases hA : k ≤ j ∧ j < k + m
      · have e4 : decide ((k : Int) ≤ j) = true := decide_eq_true (by omega)
        have e5 : decide ((j : Int) < (k : Int) + m) = true := decide_eq_true (by omega)
        obtain ⟨b0, off, rfl, hb0, c2⟩ := HR7.out.at_ (j - k) (by omega)
        rw [if_pos (by omega)] at hv
        rw [hv] at c1
        have hle := HR7.out.le
        generalize (bl.getD (j - k) 0).toNat = z at *
        have n2 : ((z : Int) != z) = false := by simp
        have e6 : ((j : Int) - k) = ((j - k : Nat) : Int) := by omega
        clear hv
        go_wp2
        go_roundw
        case rel => exact ⟨j + 1, by go_num, by omega, trivial⟩
        case measure => simp [numOf]; omega
      · rw [if_neg (by omega)] at hv
        rw [hv] at c1
        have c1 : wr.cell? ⟨g, j, none⟩ = some (.int .u8 0) := c1
        clear hv
        by_cases hB : k ≤ j
        · have e4 : decide ((k : Int) ≤ j) = true := decide_eq_true (by omega)
          have e5 : decide ((j : Int) < (k : Int) + m) = false := decide_eq_false (by omega)
          go_wp2
          go_roundw
          case rel => exact ⟨j + 1, by go_num, by omega, trivial⟩
          case measure => simp [numOf]; omega
        · have e4 : decide ((k : Int) ≤ j) = false := decide_eq_false (by omega)
          go_wp2
          go_roundw
          case rel => exact ⟨j + 1, by go_num, by omega, trivial⟩
          case measure => simp [numOf]; omega
    · obtain rfl : j = n := by omega
      have e3 : decide ((j : Int) < j) = false := decide_eq_false (by omega)
      have HX := hid HM7.out.bel
      obtain ⟨s, hs⟩ : ∃ s, s = mupd (mupd (mupd (fun _ => none) 3 (some (w2.heap.size, rsz (by_ none) 1000))) 3 (some (w2.heap.size, wro (rsz (by_ none) 1000) k bl))) 3 (some (w4.heap.size, L)) := ⟨_, rfl⟩
      have hs3 : s 3 = some (w4.heap.size, L) := by rw [hs]; exact mupd_same _ _ _
      have hs4 : s 4 = none := by rw [hs, mupd_other _ (by decide), mupd_other _ (by decide), mupd_other _ (by decide)]
      rw [← hs] at HM7
      have HS3 := hid hs3
      have HS4 := hid hs4
      clear hs hs3 hs4 HR7 HG7 HK
      go_wp2_with fail
      refine (HM7.out.read 3 0 (j + 1) (by decide) (by decide) (by omega)).mono ?_
      rintro e w8 ⟨hRd, hM8⟩
      obtain ⟨v, rfl, _, hv0, _⟩ := hRd
      have hno : rdOk (s 3) 0 (j + 1) = false := by
        rw [HS3.out]
        simp only [rdOk, inn, HL.out]
        rw [decide_eq_false (show ¬ ((0 : Int) ≤ (j : Int) - ((j : Int) + 1)) by omega)]
        simp
      obtain rfl := hv0 hno
      rw [hno]
      have HM8 := hid hM8
      clear hv0 hno hM8 HM7 HX
      obtain ⟨x8, hx8⟩ : ∃ z, erv es 8 = .iface 76 (.pointer (some z)) := ⟨_, rfl⟩
      obtain ⟨x9, hx9⟩ : ∃ z, erv es 9 = .iface 76 (.pointer (some z)) := ⟨_, rfl⟩
      obtain ⟨x1, hx1⟩ : ∃ z, erv es 1 = .iface 76 (.pointer (some z)) := ⟨_, rfl⟩
      have hb9 : Below w8.heap.size w8 (w8.alloc (.cells #[.int .u8 1] 5)) := (Below.refl _ w8).alloc (Nat.le_refl _) _
      have HM9 := hid (HM8.out.on hb9)
      have HL9 := hid (rd_lit w8 [1] #[.int .u8 1] rfl 5 (0, 0) (by decide))
      have hno9 : inn L.length j 1 = false := by
        simp only [inn, HL.out]
        rw [decide_eq_false (show ¬ ((j : Int) ≤ (j : Int) - 1) by omega)]
        simp
      have h8 : wrE (s 3) j (1 : Nat) = 8 := by
        rw [HS3.out]
        show (if inn L.length j 1 = true then 0 else 8) = 8
        rw [hno9]
        rfl
      have hS9 : wrS s 3 j [1] = s := by
        rw [wrS, HS3.out]
        show (if inn L.length j 1 = true then _ else s) = s
        rw [hno9]
        rfl
      have HW9 := hid (HM9.out.write HE3.out 3 j (by decide) (by omega) _ 1 1 [1] HL9.out (by decide))
      rw [h8, hx8, hS9] at HW9
      clear hb9 HM8 h8 hS9 hno9 HL9 HM9
      go_wp2_with fail
      refine HW9.out.mono ?_
      rintro e w9 ⟨rfl, hM, _⟩
      have HM := hid hM
      have HK := hid (kind_erv w9 es (HE.out.below hM.bel) 8 (by decide))
      rw [hx8] at HK
      clear hM HW9
      go_wp2_with fail
      refine HK.out.mono ?_
      rintro e w10 ⟨rfl, hb⟩
      have HM10 := hid (HM.out.on hb)
      clear HM HK hb
      have HW := hid (HM10.out.write HE3.out 4 0 (by decide) (by decide) none 0 0 [] (Rd.nil _) (by decide))
      have h9 : wrE (s 4) 0 (0 : Nat) = 9 := by rw [HS4.out]; rfl
      have hS : wrS s 4 0 [] = s := by rw [wrS, HS4.out]
      rw [h9, hx9, hS] at HW
      clear h9 hS HM10
      go_wp2_with fail
      refine HW.out.mono ?_
      rintro e w11 ⟨rfl, hM, _⟩
      have HM := hid hM
      have HK := hid (kind_erv w11 es (HE.out.below hM.bel) 9 (by decide))
      rw [hx9] at HK
      clear hM HW
      go_wp2_with fail
      refine HK.out.mono ?_
      rintro e w12 ⟨rfl, hb⟩
      have HM12 := hid (HM.out.on hb)
      clear HM HK hb
      have HW := hid (HM12.out.set HE3.out 0 5)
      rw [show setE 0 5 = 1 by decide, hx1, if_neg (by decide)] at HW
      clear HM12
      go_wp2_with fail
      refine HW.out.mono ?_
      rintro e w13 ⟨rfl, hM, _⟩
      have HM := hid hM
      have HK := hid (kind_erv w13 es (HE.out.below hM.bel) 1 (by decide))
      rw [hx1] at HK
      clear hM HW
      go_wp2_with fail
      refine HK.out.mono ?_
      rintro e w14 ⟨rfl, hb⟩
      have HM14 := hid (HM.out.on hb)
      clear HM HK hb
      have HW := hid (HM14.out.set HE3.out 1 65537)
      rw [show setE 1 65537 = 1 by decide, hx1, if_neg (by decide)] at HW
      clear HM14
      go_wp2_with fail
      refine HW.out.mono ?_
      rintro e w15 ⟨rfl, hM, _⟩
      have HM := hid hM
      have HK := hid (kind_erv w15 es (HE.out.below hM.bel) 1 (by decide))
      rw [hx1] at HK
      clear hM HW
      go_wp2_with fail
      refine HK.out.mono ?_
      rintro e w16 ⟨rfl, hb⟩
      have HB16 := hid (HM.out.on hb).bel
      clear HM HK hb
      have HW := hid (mawake_any w16 es (HE3.out.below HB16.out))
      go_wp2_with fail
      refine HW.out.mono ?_
      rintro e w17 ⟨rfl, hb⟩
      go_wp2
      go_ret
      exact ⟨rfl, Below.on HB16.out hb⟩

theorem walk (a : Option Addr) (m c : Nat) (zs : List Int) (pa ps : Int) (w : World) (hr : RdI .u8 w a m c zs) (_ : c * 1 ≤ 140737488351232) (ha : (Lit.int .i64 pa).wf = true) (hs : (Lit.int .i64 ps).wf = true) (hL : laidMetH Tryd.prog Rows.memoryKeepsRow.laid w) :
    Calls Tryd.prog 4 #[.slice a m c, .int .i64 pa, .int .i64 ps] w fun e w' => e = .returned (.bool true) ∧ Below w.heap.size w w' := by
  obtain ⟨es, hE⟩ := errs16 hL
  obtain ⟨bl, hb, _⟩ := hr.bytes
  by_cases h : m ≤ 500
  · exact core a m c bl pa ps w hb h (by simpa [Lit.wf, IntKind.min, IntKind.max, IntKind.signed, IntKind.bits] using ha) (by simpa [Lit.wf, IntKind.min, IntKind.max, IntKind.signed, IntKind.bits] using hs) es hE
  · exact long a m c pa ps w (by omega) es (E3.of hE)
end Go.Proofs.YtbolncddklgecaaDoor.memoryKeeps
