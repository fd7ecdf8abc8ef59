/- The document's seat: At, change, Look, Move, Keys, Gone. -/
import Derived.Test.YtegmolmjoiklpaaSeN
import Derived.Test.YtegmolmjoiklpaaRectF
namespace Go.Proofs.Ytegmolmjoiklpaa
open Go Go.RowKit Go.Shelf

set_option maxRecDepth 100000 in
set_option maxHeartbeats 1000000 in
theorem rreg_any (a : Option Addr) (n c : Nat) (l : List (List Int)) (ok : Ok4 l) (x y : Int) (hx : -9223372036854775808 ≤ x ∧ x ≤ 9223372036854775807) (hy : -9223372036854775808 ≤ y ∧ y ≤ 9223372036854775807) (w : World) (h : RdM 4 w a n c l) :
    Calls Try.prog 30 #[.slice a n c, .int .i64 x, .int .i64 y] w fun e w' => e = .returned (.bool (l.any fun r => has (rc4 r) x y)) ∧ Below w.heap.size w w' := by
  have HL := hid h.len
  have hs := h.small
  have H := hid h
  have HO := hid ok
  clear h ok
  go_enter Try.func30, Try.ntmps30
  go_wp2
  go_loopw [7] (fun i wr => ∃ j : Nat, i = .int .i64 j ∧ j ≤ n ∧ (∀ (i : Nat) r, i < j → l[i]? = some r → has (rc4 r) x y = false) ∧ RowKit.Below w.heap.size w wr) (fun i _ => n - (numOf i).toNat)
  case atStart => exact ⟨0, rfl, by omega, fun k r hk => absurd hk (by omega), Below.refl _ _⟩
  case round =>
    obtain ⟨j, rfl, hj, hN, hb⟩ := hrel
    have HN := hid hN
    have HB := hid hb
    clear hN hb
    by_cases hgo : j < n
    · have e1 : decide ((j : Int) < n) = true := decide_eq_true (by omega)
      obtain ⟨b, off, z0, z1, z2, z3, rfl, _, hr, c0, c1, c2, c3⟩ := (H.out.on HB.out).el4 hgo
      have CP := hid (rhas_any ⟨z0, z1, z2, z3⟩ (ok_rc4 HO.out (List.mem_of_getElem? hr)) x y hx hy wr)
      have HR := hid hr
      have e3 : (j : Int) < n := by omega
      clear hr
      cases hq : has (rc4 [z0, z1, z2, z3]) x y
      · rw [show has ⟨z0, z1, z2, z3⟩ x y = false from hq] at CP
        have HN2 : Hid (∀ (i : Nat) r, i < j + 1 → l[i]? = some r → has (rc4 r) x y = false) := fun i r hi hx => by
          rcases Nat.lt_or_ge i j with h | h
          · exact HN.out i r h hx
          · obtain rfl : i = j := by omega
            rw [HR.out] at hx
            cases hx
            exact hq
        clear hq
        go_wp2_with fail
        refine CP.out.mono ?_
        rintro e w2 ⟨rfl, hb2⟩
        have HB2 := hid (Below.on HB.out hb2)
        clear hb2
        go_wp2
        go_roundw
        case rel => exact ⟨j + 1, by go_num, by omega, HN2.out, HB2.out⟩
        case measure => simp [numOf]; omega
      · rw [show has ⟨z0, z1, z2, z3⟩ x y = true from hq] at CP
        have HI : Hid (l.any (fun r => has (rc4 r) x y) = true) := List.any_eq_true.2 ⟨_, List.mem_of_getElem? HR.out, hq⟩
        clear hq
        go_wp2_with fail
        refine CP.out.mono ?_
        rintro e w2 ⟨rfl, hb2⟩
        have HB2 := hid (Below.on HB.out hb2)
        clear hb2
        go_wp2
        go_ret
        rw [HI.out]
        exact ⟨rfl, HB2.out⟩
    · have e1 : decide ((j : Int) < n) = false := decide_eq_false (by omega)
      have HI : Hid (l.any (fun r => has (rc4 r) x y) = false) := List.any_eq_false.2 fun r hr => by
        obtain ⟨k, hk, e⟩ := List.mem_iff_getElem.1 hr
        rw [HN.out k r (by rw [HL.out] at hk; omega) (by rw [List.getElem?_eq_getElem hk, e])]
        decide
      go_wp2
      go_ret
      rw [HI.out]
      exact ⟨rfl, HB.out⟩

set_option maxRecDepth 100000 in
set_option maxHeartbeats 2000000 in
theorem rsat_any (a : Option Addr) (n c : Nat) (hs : List Ht) (x y : Int) (hx : -9223372036854775808 ≤ x ∧ x ≤ 9223372036854775807) (hy : -9223372036854775808 ≤ y ∧ y ≤ 9223372036854775807) (w : World) (h : RdH w a n c hs) :
    Calls Try.prog 13 #[.slice a n c, .int .i64 x, .int .i64 y] w fun e w' => e = .returned (.tuple #[.int .i64 (atL hs x y).1, .int .i64 (atL hs x y).2.1, .int .i64 (atL hs x y).2.2]) ∧ Below w.heap.size w w' := by
  have hsm := h.small
  have HL := hid h.len
  have H := hid h
  clear h
  go_enter Try.func13, Try.ntmps13
  go_wp2
  go_loopw [9] (fun i wr => ∃ k : Nat, i = .int .i64 ((n : Int) - 1 - k) ∧ k ≤ n ∧ (∀ (i : Nat) (t : Ht), i < k → hs.reverse[i]? = some t → t.hit x y = false) ∧ RowKit.Below w.heap.size w wr) (fun i _ => (numOf i + 1).toNat)
  case atStart => exact ⟨0, by simp, by omega, fun i t hi => absurd hi (by omega), Below.refl _ _⟩
  case round =>
    obtain ⟨k, rfl, hk, hN, hb⟩ := hrel
    have HN := hid hN
    have HB := hid hb
    clear hN hb
    by_cases hgo : k < n
    · obtain ⟨j, hj'⟩ : ∃ j : Nat, j = n - 1 - k := ⟨_, rfl⟩
      have ej : (n : Int) - 1 - k = j := by omega
      have ej2 : (j : Int) - 1 = (n : Int) - 1 - ((k + 1 : Nat) : Int) := by omega
      have hjN : j < n := by omega
      have e1 : decide ((0 : Int) ≤ j) = true := decide_eq_true (by omega)
      obtain ⟨b, off, t, rfl, hbb, ht, ok, hrg, ⟨d0, d1, d2, d3, d4, d5, d6⟩⟩ := (H.out.on HB.out).at_ hjN
      have htr : hs.reverse[k]? = some t := by rw [List.getElem?_reverse (by rw [HL.out]; omega), HL.out, ← hj']; exact ht
      have e2 : (j : Int) < n := by omega
      rw [ej]
      have HE := hid ej
      have HE2 := hid ej2
      have HT := hid htr
      have HOK := hid ok
      obtain ⟨W3, hW3⟩ : ∃ W3, W3 = wr.alloc (.cells (htv t) 66) := ⟨_, rfl⟩
      obtain ⟨g, hg⟩ : ∃ g, g = wr.heap.size := ⟨_, rfl⟩
      have hbox : W3.heap[g]? = some (.cells (htv t) 66 (0, 0)) := by rw [hW3, hg]; exact hp_nw wr _ rfl
      have hb3 : RowKit.Below wr.heap.size wr W3 := by rw [hW3]; exact bel_nw wr _
      have HB3 := hid (Below.on HB.out hb3)
      have HRG := hid (hrg.on hb3)
      have HBX := hid hbox
      have CV := hid (rhas_any ⟨t.x, t.y, t.w, t.h⟩ ⟨ok.x, ok.y, ok.w, ok.h⟩ x y hx hy W3)
      obtain ⟨f0, f1, f2, f3, f4, f5, f6⟩ := hcells hbox
      simp only [htv] at hW3
      clear ht htr ok hrg hbox hb3 hj' ej ej2
      go_upto_region 5 with fail
      rw [← hW3, ← hg]
      clear d0 d1 d2 d3 d4 d5 d6 hW3 hg
      cases hc : t.cov x y
      · rw [show has ⟨t.x, t.y, t.w, t.h⟩ x y = false from hc] at CV
        have HH : Hid (t.hit x y = false) := by rw [Hid, Ht.hit, hc]; rfl
        have HNN := hid (atN HN.out HT.out HH.out)
        clear hc
        go_wp2_with fail
        refine CV.out.mono ?_
        rintro e w4 ⟨rfl, hb4⟩
        have HB4 := hid (Below.on HB3.out hb4)
        clear hb4 CV f0 f1 f2 f3 f4 f5 f6
        go_wp2
        go_roundw
        case rel => exact ⟨k + 1, by rw [← HE2.out], by omega, HNN.out, HB4.out⟩
        case measure => simp [numOf]
      · rw [show has ⟨t.x, t.y, t.w, t.h⟩ x y = true from hc] at CV
        have hn := Ht.near HOK.out hc
        have HC := hid hc
        obtain ⟨n1, n2⟩ := hn
        have hw1 : IntKind.i64.wrap (x - t.x) = x - t.x := by rw [IntKind.wrap_i64]; omega
        have hw2 : IntKind.i64.wrap (y - t.y) = y - t.y := by rw [IntKind.wrap_i64]; omega
        clear hc
        go_wp2_with fail
        refine CV.out.mono ?_
        rintro e w4 ⟨rfl, hb4⟩
        have hX4 := (hb4.block _ (Array.getElem?_eq_some_iff.1 HBX.out).1).trans HBX.out
        have HB4 := hid (Below.on HB3.out hb4)
        have CT := hid (rreg_any t.a t.n t.c t.l HOK.out.l (x - t.x) (y - t.y) (by omega) (by omega) w4 (HRG.out.on hb4))
        have HX4 := hid hX4
        clear CV f0 f1 f2 f3 f4 f5 f6 hb4
        obtain ⟨f0, f1, f2, f3, f4, f5, f6⟩ := hcells hX4
        clear hX4
        cases ht : t.t
        · rw [ht] at f5
          cases hq : t.l.any fun r => has (rc4 r) (x - t.x) (y - t.y)
          · rw [hq] at CT
            have HH : Hid (t.hit x y = false) := by rw [Hid, Ht.hit, HC.out, Ht.tks, ht, hq]; rfl
            have HNN := hid (atN HN.out HT.out HH.out)
            clear ht hq
            go_wp2_with fail
            refine CT.out.mono ?_
            rintro e w5 ⟨rfl, hb5⟩
            have HB5 := hid (Below.on HB4.out hb5)
            clear hb5 CT f0 f1 f2 f3 f4 f5 f6
            go_wp2
            go_roundw
            case rel => exact ⟨k + 1, by rw [← HE2.out], by omega, HNN.out, HB5.out⟩
            case measure => simp [numOf]
          · rw [hq] at CT
            have HH : Hid (atL hs x y = (t.s, x - t.x, y - t.y)) := atR_some HT.out (by rw [Ht.hit, HC.out, Ht.tks, ht, hq]; rfl) HN.out
            clear ht hq
            go_wp2_with fail
            refine CT.out.mono ?_
            rintro e w5 ⟨rfl, hb5⟩
            have hX5 := (hb5.block _ (Array.getElem?_eq_some_iff.1 HX4.out).1).trans HX4.out
            have HB5 := hid (Below.on HB4.out hb5)
            clear hb5 CT f0 f1 f2 f3 f4 f5 f6
            obtain ⟨f0, f1, f2, f3, f4, f5, f6⟩ := hcells hX5
            clear hX5
            go_wp2
            go_quiet (fail)
            go_wp2
            go_ret3
            rw [HH.out]
            exact ⟨rfl, Below.on HB5.out (below_drewN (Below.refl _ _) _)⟩
        · rw [ht] at f5
          have HH : Hid (atL hs x y = (t.s, x - t.x, y - t.y)) := atR_some HT.out (by rw [Ht.hit, HC.out, Ht.tks, ht]; rfl) HN.out
          clear ht CT
          go_wp2
          go_quiet (fail)
          go_wp2
          go_ret3
          rw [HH.out]
          exact ⟨rfl, Below.on HB4.out (below_drewN (Below.refl _ _) _)⟩
    · obtain rfl : k = n := by omega
      have e1 : decide ((0 : Int) ≤ (k : Int) - 1 - k) = false := decide_eq_false (by omega)
      have HH : Hid (atL hs x y = (0, 0, 0)) := atR_none fun i t ht => HN.out i t (by have := (List.getElem?_eq_some_iff.1 ht).1; rw [List.length_reverse, HL.out] at this; exact this) ht
      go_wp2
      go_ret3
      rw [HH.out]
      exact ⟨rfl, HB.out⟩
end Go.Proofs.Ytegmolmjoiklpaa
