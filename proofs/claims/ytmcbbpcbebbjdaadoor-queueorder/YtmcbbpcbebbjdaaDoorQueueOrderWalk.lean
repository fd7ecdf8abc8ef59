/- QueueOrder: for any number, any slice of byte slices and any slice of ints the call returns true; nothing that was there has turned. -/
import Derived.Test.YtmcbbpcbebbjdaaDoorQuD
import Derived.Test.YtmcbbpcbebbjdaaDoorLibP
import Derived.Test.YtmcbbpcbebbjdaaDoorOpn5
import Derived.Test.YtmcbbpcbebbjdaaDoorLibS
import Derived.Deep.CutBlock
import Derived.Deep.DeepCutAuto
namespace Go.Proofs.YtmcbbpcbebbjdaaDoor.queueOrder
open Go Go.RowKit

/-- Bytes as a string. -/
def st (l : List UInt8) : ByteArray := ⟨l.toArray⟩
theorem st_size (l : List UInt8) : (st l).size = l.length := by simp [st, ByteArray.size]
theorem st_append (a b : List UInt8) : st a ++ st b = st (a ++ b) := by
  unfold st
  apply ByteArray.ext
  simp

theorem rd_on {w u : World} {a : Option Addr} {n c : Nat} {l : List UInt8} (h : Rd w a n c l) (hb : Below w.heap.size w u) : Rd u a n c l :=
  h.below hb (fun x hx hl => by
    obtain ⟨b, off, e, hbl, _⟩ := h.plain (by rw [← h.len]; exact hl)
    rw [hx] at e
    cases e
    exact hbl)

set_option maxRecDepth 100000 in
set_option maxHeartbeats 4000000 in
theorem core (most : Int) (hmost : -9223372036854775808 ≤ most ∧ most ≤ 9223372036854775807) (a : Option Addr) (n c : Nat) (L : List (List UInt8)) (ta : Option Addr) (tn tc : Nat) (tz : List Int) (w : World) (hr : RdB w a n c L) (ht : RdI .i64 w ta tn tc tz) (es : List Addr) (hE : Errs w gerrs es) :
    Calls Tryd.prog 4 #[.int .i64 most, .slice a n c, .slice ta tn tc] w fun e w' => e = .returned (.bool true) ∧ Below w.heap.size w w' := by
  have HE := hid hE
  have HR := hid hr
  have HT := hid ht
  have hn : n ≤ 9223372036854775807 := by have := Nat.le_trans hr.le hr.max; simp only [maxLen] at this; omega
  have htn : tn ≤ 9223372036854775807 := by have := Nat.le_trans ht.le ht.max; simp only [maxLen] at this; omega
  have HP := hid (place_any most 300 hmost (by omega) (by omega))
  have hm := plc_lt most 300 (by omega)
  obtain ⟨m, hm'⟩ : ∃ m, m = plc most 300 := ⟨_, rfl⟩
  rw [← hm'] at HP hm
  clear hr ht hE hmost hm'
  go_enter Tryd.func4, Tryd.ntmps4
  go_wp2_with fail
  refine (HP.out w).mono ?_
  rintro e w ⟨rfl, rfl⟩
  clear HP
  go_wp2_with fail
  refine (qw_new w w (Below.refl _ _) m).mono ?_
  rintro e w1 ⟨rfl, hb1, hQ⟩
  rw [show qroom (m : Int) = m by unfold qroom; omega] at hQ
  have HQ := hid hQ
  clear hQ hb1
  go_upto_block 0 with fail
  go_cut [9, 10] (fun si so wc => ∃ (O l : List UInt8) (c' : Bool), si = .string (st (O ++ l)) ∧ so = .string (st O) ∧ (O ++ l).length ≤ 8000 ∧ Qw w wc w.heap.size m l c' [])
  case first =>
    go_wp2
    go_loopw [9, 10, 11, 12] (fun si so cl i wr => ∃ (j : Nat) (O l : List UInt8) (c' : Bool), si = .string (st (O ++ l)) ∧ so = .string (st O) ∧ cl = .bool c' ∧ i = .int .i64 j ∧ j ≤ n ∧ j ≤ 40 ∧ (O ++ l).length ≤ 200 * j ∧ Qw w wr w.heap.size m l c' []) (fun _ _ _ i _ => n - (numOf i).toNat)
    case atStart => exact ⟨0, [], [], false, rfl, rfl, rfl, rfl, by omega, by omega, by simp, HQ.out⟩
    case round =>
      obtain ⟨j, O, l, c', rfl, rfl, rfl, rfl, hj, hj40, hlen, hQ⟩ := hrel
      clear HQ
      by_cases hgo : j < n ∧ j < 40
      · obtain ⟨hgo1, hgo2⟩ := hgo
        have e1 : decide ((j : Int) < (n : Int)) = true := decide_eq_true (by omega)
        have e2 : decide ((j : Int) < 40) = true := decide_eq_true (by omega)
        have e3 : (j : Int) < (n : Int) := by omega
        obtain ⟨bl, off, b, a', n', k', rfl, hL, hc0, hrd, hn'⟩ := HR.out.at_ j hgo1
        have HC : Hid (∀ u, Below w.heap.size w u → u.cell? ⟨bl, off + j, none⟩ = some (.slice a' n' k') ∧ bl < u.heap.size) := fun u hu => ⟨(kp_of_below hu []).cell hc0 (by simp), World.block_lt_of_cell? u _ ((kp_of_below hu []).cell hc0 (by simp))⟩
        obtain ⟨d0, d1⟩ := HC.out _ hQ.bel
        have HB := hid hrd
        have hbl := hrd.len
        have HQ := hid hQ
        clear hc0 hrd hQ hL
        by_cases hbig : 200 < n'
        · have f1 : decide (200 < (n' : Int)) = true := decide_eq_true (by omega)
          as_aux_lemma =>
            go_wp2_with fail
            refine (qawake_any wr es (HE.out.below HQ.out.bel)).mono ?_
            rintro e w2 ⟨rfl, hb⟩
            have HF := hid (Below.on HQ.out.bel hb)
            clear hb
            go_wp2
            go_ret
            exact ⟨rfl, HF.out⟩
        · have f1 : decide (200 < (n' : Int)) = false := decide_eq_false (by omega)
          go_wp2_with fail
          refine (HQ.out.put es HE.out a' n' k' b (rd_on HB.out HQ.out.bel)).mono ?_
          rintro e w2 ⟨rfl, hQ2, _⟩
          obtain ⟨d2, d3⟩ := HC.out _ hQ2.bel
          have HQ2 := hid hQ2
          clear hQ2 d0 d1
          have hlm := HQ.out.len.1
          rw [List.length_append] at hlen
          have s1 : (st (O ++ l)).size = O.length + l.length := by rw [st_size, List.length_append]
          have s2 : (st O).size = O.length := st_size O
          cases c' with
          | true =>
            by_cases hf : m - l.length < b.length
            · as_aux_lemma =>
                have g1 : putK m l true b = 15 := by simp [putK]
                have g2 : putC m l true b = true := by simp [putC]
                have g3 : putL m l true b = l := by simp [putL]
                rw [g2, g3] at HQ2
                rw [g1]
                have HK := hid (kind_erv w2 es (HE.out.below HQ2.out.bel) 15 (by decide))
                have HV : Hid (∃ ad, erv es 15 = .iface 67 (.pointer (some ad))) := ⟨_, rfl⟩
                obtain ⟨ad, had⟩ := HV.out
                rw [had] at HK ⊢
                clear g1 g2 g3 HQ HV had
                have s3 : ¬ (((O.length : Nat) : Int) + (l.length : Nat) - (O.length : Nat) + (n' : Nat) ≤ (m : Nat)) := by omega
                have s3' := decide_eq_false s3
                go_wp2_with fail
                refine HK.out.mono ?_
                rintro e w3 ⟨rfl, hb3⟩
                have hQ3 := HQ2.out.on hb3
                have HQ2 := hid hQ3
                obtain ⟨d2, d3⟩ := HC.out _ hQ3.bel
                clear HK hb3 hQ3
                by_cases hgt : j < tn
                · obtain ⟨tb, toff, rfl, htb, htc⟩ := HT.out.plain (by omega)
                  have hz := i64_range (HT.out.wf (tz.getD j 0) (by
                    rw [List.getD, List.getElem?_eq_getElem (by rw [HT.out.len]; exact hgt)]
                    exact List.getElem_mem _))
                  have PL := hid (fun u => place_any (tz.getD j 0) 100 hz (by omega) (by omega) u)
                  have hpl := plc_lt (tz.getD j 0) 100 (by omega)
                  have HD : Hid (∀ u, Below w.heap.size w u → u.cell? ⟨tb, toff + j, none⟩ = some (.int .i64 (tz.getD j 0)) ∧ tb < u.heap.size) := fun u hu => by
                    have hc := (kp_of_below hu []).cell (htc j (by rw [HT.out.len]; exact hgt)) (by simp)
                    exact ⟨hc, World.block_lt_of_cell? u _ hc⟩
                  generalize plc (tz.getD j 0) 100 = pk at PL hpl
                  generalize tz.getD j 0 = z at PL HD
                  obtain ⟨d4, d5⟩ := HD.out _ HQ2.out.bel
                  have x1 : decide ((j : Int) < (tn : Int)) = true := decide_eq_true (by omega)
                  have x2 : (j : Int) < (tn : Int) := by omega
                  clear htb htc hz
                  go_wp2_with fail
                  refine (PL.out _).mono ?_
                  rintro e w2 ⟨rfl, rfl⟩
                  have HT3 := hid (HQ2.out.take pk)
                  have ht : qtk l (pk : Int) ≤ pk := by unfold qtk; omega
                  have htl := qtk_le l (pk : Int)
                  generalize qtk l (pk : Int) = t at HT3 ht htl
                  go_wp2_with fail
                  refine HT3.out.mono ?_
                  rintro e w3 ⟨rfl, hrd3, hQ3, _⟩
                  have v2 := hrd3.conv (P := Tryd.prog) 27 9 5 Tryd.underlying27 Tryd.underlying5 Tryd.underlying9
                  change (convert _ _ _).run _ _ = .ok (.string (st ((l).take t))) _ at v2
                  have s6 : (st ((l).take t)).size = t := by rw [st_size, List.length_take]; omega
                  have s7 : ¬ 9223372036854775807 < O.length + t := by omega
                  obtain ⟨d6, d7⟩ := HD.out _ hQ3.bel
                  have HQ3 := hid hQ3
                  clear hrd3 hQ3 HT3 d2 d3 d4 d5 HQ2
                  have x3 : decide ((pk : Int) < (t : Int)) = false := decide_eq_false (by omega)
                  go_wp2_with fail
                  refine (PL.out _).mono ?_
                  rintro e w3 ⟨rfl, rfl⟩
                  go_wp2_with fail
                  go_roundw
                  case rel => exact ⟨j + 1, O ++ (l).take t, (l).drop t, true, by rw [List.append_assoc, List.take_append_drop], by rw [st_append], rfl, by go_num, by omega, by omega, by rw [List.append_assoc, List.take_append_drop]; rw [List.length_append]; omega, HQ3.out⟩
                  case measure => simp [numOf]; omega
                · have x1 : decide ((j : Int) < (tn : Int)) = false := decide_eq_false (by omega)
                  go_wp2_with fail
                  go_roundw
                  case rel => exact ⟨j + 1, O, l, true, rfl, rfl, rfl, by go_num, by omega, by omega, by rw [List.length_append]; omega, HQ2.out⟩
                  case measure => simp [numOf]; omega
            · as_aux_lemma =>
                have g1 : putK m l true b = 15 := by simp [putK]
                have g2 : putC m l true b = true := by simp [putC]
                have g3 : putL m l true b = l := by simp [putL]
                rw [g2, g3] at HQ2
                rw [g1]
                have HK := hid (kind_erv w2 es (HE.out.below HQ2.out.bel) 15 (by decide))
                have HV : Hid (∃ ad, erv es 15 = .iface 67 (.pointer (some ad))) := ⟨_, rfl⟩
                obtain ⟨ad, had⟩ := HV.out
                rw [had] at HK ⊢
                clear g1 g2 g3 HQ HV had
                have s3 : decide (((O.length + l.length : Nat) : Int) - (O.length : Nat) + (n' : Nat) ≤ (m : Nat)) = true := decide_eq_true (by omega)
                go_wp2_with fail
                refine HK.out.mono ?_
                rintro e w3 ⟨rfl, hb3⟩
                have hQ3 := HQ2.out.on hb3
                have HQ2 := hid hQ3
                obtain ⟨d2, d3⟩ := HC.out _ hQ3.bel
                clear HK hb3 hQ3
                by_cases hgt : j < tn
                · obtain ⟨tb, toff, rfl, htb, htc⟩ := HT.out.plain (by omega)
                  have hz := i64_range (HT.out.wf (tz.getD j 0) (by
                    rw [List.getD, List.getElem?_eq_getElem (by rw [HT.out.len]; exact hgt)]
                    exact List.getElem_mem _))
                  have PL := hid (fun u => place_any (tz.getD j 0) 100 hz (by omega) (by omega) u)
                  have hpl := plc_lt (tz.getD j 0) 100 (by omega)
                  have HD : Hid (∀ u, Below w.heap.size w u → u.cell? ⟨tb, toff + j, none⟩ = some (.int .i64 (tz.getD j 0)) ∧ tb < u.heap.size) := fun u hu => by
                    have hc := (kp_of_below hu []).cell (htc j (by rw [HT.out.len]; exact hgt)) (by simp)
                    exact ⟨hc, World.block_lt_of_cell? u _ hc⟩
                  generalize plc (tz.getD j 0) 100 = pk at PL hpl
                  generalize tz.getD j 0 = z at PL HD
                  obtain ⟨d4, d5⟩ := HD.out _ HQ2.out.bel
                  have x1 : decide ((j : Int) < (tn : Int)) = true := decide_eq_true (by omega)
                  have x2 : (j : Int) < (tn : Int) := by omega
                  clear htb htc hz
                  go_wp2_with fail
                  refine (PL.out _).mono ?_
                  rintro e w2 ⟨rfl, rfl⟩
                  have HT3 := hid (HQ2.out.take pk)
                  have ht : qtk l (pk : Int) ≤ pk := by unfold qtk; omega
                  have htl := qtk_le l (pk : Int)
                  generalize qtk l (pk : Int) = t at HT3 ht htl
                  go_wp2_with fail
                  refine HT3.out.mono ?_
                  rintro e w3 ⟨rfl, hrd3, hQ3, _⟩
                  have v2 := hrd3.conv (P := Tryd.prog) 27 9 5 Tryd.underlying27 Tryd.underlying5 Tryd.underlying9
                  change (convert _ _ _).run _ _ = .ok (.string (st ((l).take t))) _ at v2
                  have s6 : (st ((l).take t)).size = t := by rw [st_size, List.length_take]; omega
                  have s7 : ¬ 9223372036854775807 < O.length + t := by omega
                  obtain ⟨d6, d7⟩ := HD.out _ hQ3.bel
                  have HQ3 := hid hQ3
                  clear hrd3 hQ3 HT3 d2 d3 d4 d5 HQ2
                  have x3 : decide ((pk : Int) < (t : Int)) = false := decide_eq_false (by omega)
                  go_wp2_with fail
                  refine (PL.out _).mono ?_
                  rintro e w3 ⟨rfl, rfl⟩
                  go_wp2_with fail
                  go_roundw
                  case rel => exact ⟨j + 1, O ++ (l).take t, (l).drop t, true, by rw [List.append_assoc, List.take_append_drop], by rw [st_append], rfl, by go_num, by omega, by omega, by rw [List.append_assoc, List.take_append_drop]; rw [List.length_append]; omega, HQ3.out⟩
                  case measure => simp [numOf]; omega
                · have x1 : decide ((j : Int) < (tn : Int)) = false := decide_eq_false (by omega)
                  go_wp2_with fail
                  go_roundw
                  case rel => exact ⟨j + 1, O, l, true, rfl, rfl, rfl, by go_num, by omega, by omega, by rw [List.length_append]; omega, HQ2.out⟩
                  case measure => simp [numOf]; omega
          | false =>
            by_cases hf : m - l.length < b.length
            · as_aux_lemma =>
                have g1 : putK m l false b = 14 := by rw [putK, if_neg (by decide), if_pos hf]
                have g2 : putC m l false b = true := by rw [putC, decide_eq_true hf]; rfl
                have g3 : putL m l false b = l := by rw [putL, if_pos (.inr hf)]
                rw [g2, g3] at HQ2
                rw [g1]
                have HV : Hid (∃ ad, erv es 14 = .iface 67 (.pointer (some ad))) := ⟨_, rfl⟩
                obtain ⟨ad, had⟩ := HV.out
                rw [had]
                have s3 : ¬ (((O.length : Nat) : Int) + (l.length : Nat) - (O.length : Nat) + (n' : Nat) ≤ (m : Nat)) := by omega
                have s3' := decide_eq_false s3
                clear g1 g2 g3 HQ HV had
                by_cases hgt : j < tn
                · obtain ⟨tb, toff, rfl, htb, htc⟩ := HT.out.plain (by omega)
                  have hz := i64_range (HT.out.wf (tz.getD j 0) (by
                    rw [List.getD, List.getElem?_eq_getElem (by rw [HT.out.len]; exact hgt)]
                    exact List.getElem_mem _))
                  have PL := hid (fun u => place_any (tz.getD j 0) 100 hz (by omega) (by omega) u)
                  have hpl := plc_lt (tz.getD j 0) 100 (by omega)
                  have HD : Hid (∀ u, Below w.heap.size w u → u.cell? ⟨tb, toff + j, none⟩ = some (.int .i64 (tz.getD j 0)) ∧ tb < u.heap.size) := fun u hu => by
                    have hc := (kp_of_below hu []).cell (htc j (by rw [HT.out.len]; exact hgt)) (by simp)
                    exact ⟨hc, World.block_lt_of_cell? u _ hc⟩
                  generalize plc (tz.getD j 0) 100 = pk at PL hpl
                  generalize tz.getD j 0 = z at PL HD
                  obtain ⟨d4, d5⟩ := HD.out _ HQ2.out.bel
                  have x1 : decide ((j : Int) < (tn : Int)) = true := decide_eq_true (by omega)
                  have x2 : (j : Int) < (tn : Int) := by omega
                  clear htb htc hz
                  go_wp2_with fail
                  refine (PL.out _).mono ?_
                  rintro e w2 ⟨rfl, rfl⟩
                  have HT3 := hid (HQ2.out.take pk)
                  have ht : qtk l (pk : Int) ≤ pk := by unfold qtk; omega
                  have htl := qtk_le l (pk : Int)
                  generalize qtk l (pk : Int) = t at HT3 ht htl
                  go_wp2_with fail
                  refine HT3.out.mono ?_
                  rintro e w3 ⟨rfl, hrd3, hQ3, _⟩
                  have v2 := hrd3.conv (P := Tryd.prog) 27 9 5 Tryd.underlying27 Tryd.underlying5 Tryd.underlying9
                  change (convert _ _ _).run _ _ = .ok (.string (st ((l).take t))) _ at v2
                  have s6 : (st ((l).take t)).size = t := by rw [st_size, List.length_take]; omega
                  have s7 : ¬ 9223372036854775807 < O.length + t := by omega
                  obtain ⟨d6, d7⟩ := HD.out _ hQ3.bel
                  have HQ3 := hid hQ3
                  clear hrd3 hQ3 HT3 d2 d3 d4 d5 HQ2
                  have x3 : decide ((pk : Int) < (t : Int)) = false := decide_eq_false (by omega)
                  go_wp2_with fail
                  refine (PL.out _).mono ?_
                  rintro e w3 ⟨rfl, rfl⟩
                  go_wp2_with fail
                  go_roundw
                  case rel => exact ⟨j + 1, O ++ (l).take t, (l).drop t, true, by rw [List.append_assoc, List.take_append_drop], by rw [st_append], rfl, by go_num, by omega, by omega, by rw [List.append_assoc, List.take_append_drop]; rw [List.length_append]; omega, HQ3.out⟩
                  case measure => simp [numOf]; omega
                · have x1 : decide ((j : Int) < (tn : Int)) = false := decide_eq_false (by omega)
                  go_wp2_with fail
                  go_roundw
                  case rel => exact ⟨j + 1, O, l, true, rfl, rfl, rfl, by go_num, by omega, by omega, by rw [List.length_append]; omega, HQ2.out⟩
                  case measure => simp [numOf]; omega
            · as_aux_lemma =>
                have g1 : putK m l false b = 0 := by rw [putK, if_neg (by decide), if_neg hf]
                have g2 : putC m l false b = false := by rw [putC, decide_eq_false hf]; rfl
                have g3 : putL m l false b = l ++ b := by rw [putL, if_neg (by simp only [Bool.false_eq_true, false_or]; exact hf)]
                rw [g2, g3] at HQ2
                rw [g1, show erv es 0 = .nilIface from rfl]
                have s3 : decide (((O.length + l.length : Nat) : Int) - (O.length : Nat) + (n' : Nat) ≤ (m : Nat)) = true := decide_eq_true (by omega)
                have s4 : (st b).size = n' := by rw [st_size]; exact hbl
                have s5 : ¬ 9223372036854775807 < O.length + l.length + n' := by omega
                have v1 := (rd_on HB.out HQ2.out.bel).conv (P := Tryd.prog) 27 9 5 Tryd.underlying27 Tryd.underlying5 Tryd.underlying9
                change (convert _ _ _).run _ _ = .ok (.string (st b)) _ at v1
                clear g1 g2 g3 HQ
                by_cases hgt : j < tn
                · obtain ⟨tb, toff, rfl, htb, htc⟩ := HT.out.plain (by omega)
                  have hz := i64_range (HT.out.wf (tz.getD j 0) (by
                    rw [List.getD, List.getElem?_eq_getElem (by rw [HT.out.len]; exact hgt)]
                    exact List.getElem_mem _))
                  have PL := hid (fun u => place_any (tz.getD j 0) 100 hz (by omega) (by omega) u)
                  have hpl := plc_lt (tz.getD j 0) 100 (by omega)
                  have HD : Hid (∀ u, Below w.heap.size w u → u.cell? ⟨tb, toff + j, none⟩ = some (.int .i64 (tz.getD j 0)) ∧ tb < u.heap.size) := fun u hu => by
                    have hc := (kp_of_below hu []).cell (htc j (by rw [HT.out.len]; exact hgt)) (by simp)
                    exact ⟨hc, World.block_lt_of_cell? u _ hc⟩
                  generalize plc (tz.getD j 0) 100 = pk at PL hpl
                  generalize tz.getD j 0 = z at PL HD
                  obtain ⟨d4, d5⟩ := HD.out _ HQ2.out.bel
                  have x1 : decide ((j : Int) < (tn : Int)) = true := decide_eq_true (by omega)
                  have x2 : (j : Int) < (tn : Int) := by omega
                  clear htb htc hz
                  go_wp2_with fail
                  refine (PL.out _).mono ?_
                  rintro e w2 ⟨rfl, rfl⟩
                  have HT3 := hid (HQ2.out.take pk)
                  have ht : qtk (l ++ b) (pk : Int) ≤ pk := by unfold qtk; omega
                  have htl := qtk_le (l ++ b) (pk : Int)
                  generalize qtk (l ++ b) (pk : Int) = t at HT3 ht htl
                  go_wp2_with fail
                  refine HT3.out.mono ?_
                  rintro e w3 ⟨rfl, hrd3, hQ3, _⟩
                  have v2 := hrd3.conv (P := Tryd.prog) 27 9 5 Tryd.underlying27 Tryd.underlying5 Tryd.underlying9
                  change (convert _ _ _).run _ _ = .ok (.string (st (((l ++ b)).take t))) _ at v2
                  have s6 : (st (((l ++ b)).take t)).size = t := by rw [st_size, List.length_take]; omega
                  have s7 : ¬ 9223372036854775807 < O.length + t := by omega
                  obtain ⟨d6, d7⟩ := HD.out _ hQ3.bel
                  have HQ3 := hid hQ3
                  clear hrd3 hQ3 HT3 d2 d3 d4 d5 HQ2 v1
                  have x3 : decide ((pk : Int) < (t : Int)) = false := decide_eq_false (by omega)
                  go_wp2_with fail
                  refine (PL.out _).mono ?_
                  rintro e w3 ⟨rfl, rfl⟩
                  go_wp2_with fail
                  go_roundw
                  case rel => exact ⟨j + 1, O ++ ((l ++ b)).take t, ((l ++ b)).drop t, false, by rw [st_append, List.append_assoc, List.append_assoc, List.take_append_drop], by rw [st_append], rfl, by go_num, by omega, by omega, by rw [List.append_assoc, List.take_append_drop]; rw [List.length_append, List.length_append]; omega, HQ3.out⟩
                  case measure => simp [numOf]; omega
                · have x1 : decide ((j : Int) < (tn : Int)) = false := decide_eq_false (by omega)
                  go_wp2_with fail
                  go_roundw
                  case rel => exact ⟨j + 1, O, (l ++ b), false, by rw [st_append, List.append_assoc], rfl, rfl, by go_num, by omega, by omega, by rw [List.length_append, List.length_append]; omega, HQ2.out⟩
                  case measure => simp [numOf]; omega
      · have HQ := hid hQ
        rw [List.length_append] at hlen
        clear hQ
        by_cases h1 : j < n
        · have e1 : decide ((j : Int) < (n : Int)) = true := decide_eq_true (by omega)
          have e2 : decide ((j : Int) < 40) = false := decide_eq_false (by omega)
          go_wp2
          go_meet
          exact ⟨O, l, c', rfl, rfl, by rw [List.length_append]; omega, HQ.out⟩
        · have e1 : decide ((j : Int) < (n : Int)) = false := decide_eq_false (by omega)
          go_wp2
          go_meet
          exact ⟨O, l, c', rfl, rfl, by rw [List.length_append]; omega, HQ.out⟩
  case rest =>
    obtain ⟨O, l, c', rfl, rfl, hlen, hQ⟩ := hcut
    have hl := hQ.len
    have HT3 := hid (hQ.take 16384)
    rw [show qtk l 16384 = l.length by unfold qtk; omega, List.drop_length, List.take_length] at HT3
    rw [List.length_append] at hlen
    clear HQ hQ
    go_wp2_with fail
    refine HT3.out.mono ?_
    rintro e w3 ⟨rfl, hrd3, hQ3, _⟩
    have v2 := hrd3.conv (P := Tryd.prog) 27 9 5 Tryd.underlying27 Tryd.underlying5 Tryd.underlying9
    change (convert _ _ _).run _ _ = .ok (.string (st l)) _ at v2
    have s6 : (st l).size = l.length := st_size l
    have s2 : (st O).size = O.length := st_size O
    have s7 : ¬ 9223372036854775807 < O.length + l.length := by omega
    have s8 := st_append O l
    clear hrd3 HT3
    go_wp2_with fail
    refine hQ3.leng.mono ?_
    rintro e w4 ⟨rfl, rfl⟩
    go_wp2_with fail
    refine (qawake_any _ es (HE.out.below hQ3.bel)).mono ?_
    rintro e w5 ⟨rfl, hb⟩
    have HF := hid (Below.on hQ3.bel hb)
    clear hb hQ3
    go_wp2
    go_ret
    exact ⟨rfl, HF.out⟩

theorem walk (a0 : Int) (a1 : Option Addr) (n1 c1 : Nat) (l1 : List (List UInt8)) (a2 : Option Addr) (n2 c2 : Nat) (z2 : List Int) (w : World) (w0 : (Lit.int .i64 a0).wf = true) (w1 : RdB w a1 n1 c1 l1) (w2 : RdI .i64 w a2 n2 c2 z2) (_ : c2 * 8 ≤ 140737488351232) (hL : laidMetH Tryd.prog Rows.queueOrderRow.laid w) :
    Calls Tryd.prog 4 #[.int .i64 a0, .slice a1 n1 c1, .slice a2 n2 c2] w fun e w' => e = .returned (.bool true) ∧ Below w.heap.size w w' := by
  obtain ⟨es, hE⟩ := errs16 hL
  exact core a0 (i64_range w0) a1 n1 c1 l1 a2 n2 c2 z2 w w1 w2 es hE
end Go.Proofs.YtmcbbpcbebbjdaaDoor.queueOrder
