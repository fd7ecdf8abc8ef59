/- Children found and put: Find, Put, placed; the document's Find, Put, puts; once. -/
import Derived.Test.YtcdflegfjannmaaStaC
namespace Go.Proofs.Ytcdflegfjannmaa
open Go Go.RowKit

theorem fndV_some {k : Int} {l : List (List Int)} {i : Nat} {z0 z1 z2 : Int} (h : ixf k l = some i) (hz : l[i]? = some [z0, z1, z2]) : FndV k l (.agg #[.int .i64 z0, .int .i64 z1, .int .i64 z2]) true := by
  obtain ⟨_, h2, _⟩ := ixf_some h
  rw [hz] at h2
  unfold FndV
  rw [h2]
  exact ⟨rfl, rfl⟩
theorem fndV_none {k : Int} {l : List (List Int)} (h : ixf k l = none) : FndV k l (.agg #[.int .i64 0, .int .i64 0, .int .i64 0]) false := by
  unfold FndV
  rw [(ixf_none h).2]
  exact ⟨rfl, rfl⟩
theorem FndV.same {k : Int} {l : List (List Int)} {v v' : Value} {b b' : Bool} (h : FndV k l v b) (h' : FndV k l v' b') : v = v' ∧ b = b' := by
  unfold FndV at h h'
  cases hf : fnd k l with
  | none => rw [hf] at h h'; exact ⟨h.1.trans h'.1.symm, h.2.trans h'.2.symm⟩
  | some y => rw [hf] at h h'; exact ⟨h.1.trans h'.1.symm, h.2.trans h'.2.symm⟩
/-- What Find hands back: a child and a truth. -/
def FndR (k : Int) (l : List (List Int)) (w : World) (e : Ending) (w' : World) : Prop := ∃ z0 z1 z2 b, e = .returned (.tuple #[.agg #[.int .i64 z0, .int .i64 z1, .int .i64 z2], .bool b]) ∧ FndV k l (.agg #[.int .i64 z0, .int .i64 z1, .int .i64 z2]) b ∧ Below w.heap.size w w'

set_option maxRecDepth 100000 in
set_option maxHeartbeats 1000000 in
theorem find_any (a : Option Addr) (n c : Nat) (l : List (List Int)) (k : Int) (w : World) (h : RdM 3 w a n c l) :
    Calls Try.prog 10 #[.slice a n c, .int .i64 k] w (FndR k l w) := by
  have hs := h.small
  have hl := h.len
  have hb := bel_new w (.cells #[.int .i64 0, .int .i64 0, .int .i64 0] 28)
  have h1 := h.on hb
  have CI := hid (index_any a n c l k _ h1)
  have HK := hid (bk_new w #[.int .i64 0, .int .i64 0, .int .i64 0] 28)
  have HB := hid hb
  cases hx : ixf k l with
  | none =>
    have hi : ixI k l = -1 := by rw [ixI, hx]
    rw [hi] at CI
    have HF := hid (fndV_none hx)
    clear h h1 hb hx hi hl
    go_enter Try.func10, Try.ntmps10
    go_wp2_with fail
    refine CI.out.mono ?_
    rintro e w2 ⟨rfl, hb2⟩
    have HB2 := hid (Below.on HB.out hb2)
    have HK2 := hid (HK.out.on hb2)
    have f0 := HK2.out.fz
    have c0 := HK2.out.cell 0
    have c1 := HK2.out.cell 1
    have c2 := HK2.out.cell 2
    clear hb2
    go_wp2
    refine bodyPost_ret (results_cell_tmp' rfl _ _ w.heap.size _ _ _ _ rfl (((HK2.out.set 0 _).set 1 _).set 2 _).obj Try.underlying28 rfl infoCh) rfl ?_
    exact ⟨0, 0, 0, false, rfl, HF.out, ((HB2.out.setCell (p := ⟨w.heap.size, 0, none⟩) (Nat.le_refl _) _).setCell (p := ⟨w.heap.size, 1, none⟩) (Nat.le_refl _) _).setCell (p := ⟨w.heap.size, 2, none⟩) (Nat.le_refl _) _⟩
  | some i =>
    have hi : ixI k l = i := by rw [ixI, hx]
    rw [hi] at CI
    have hin : i < n := by rw [← hl]; exact (ixf_some hx).1
    obtain ⟨b, off, z0, z1, z2, rfl, hb0, hz, d0, d1, d2⟩ := h1.el3 hin
    have HF := hid (fndV_some hx hz)
    have e1 : (i : Int) < n := by omega
    have e2 : (0 : Int) ≤ i := by omega
    clear h h1 hb hx hi hl hz
    have HD0 := hid d0
    have HD1 := hid d1
    have HD2 := hid d2
    clear d0 d1 d2
    go_enter Try.func10, Try.ntmps10
    go_wp2_with fail
    refine CI.out.mono ?_
    rintro e w2 ⟨rfl, hb2⟩
    have HB2 := hid (Below.on HB.out hb2)
    have HK2 := hid (HK.out.on hb2)
    have f0 := HK2.out.fz
    have c0 := HK2.out.cell 0
    have c1 := HK2.out.cell 1
    have c2 := HK2.out.cell 2
    have d0 : w2.cell? ⟨b, off + i * 3, none⟩ = some (.int .i64 z0) := by rw [hb2.cell hb0]; exact HD0.out
    have d1 : w2.cell? ⟨b, off + i * 3 + 1, none⟩ = some (.int .i64 z1) := by rw [hb2.cell hb0]; exact HD1.out
    have d2 : w2.cell? ⟨b, off + i * 3 + 2, none⟩ = some (.int .i64 z2) := by rw [hb2.cell hb0]; exact HD2.out
    clear hb2
    go_wp2
    refine bodyPost_ret (results_cell_tmp' rfl _ _ w.heap.size _ _ _ _ rfl (((HK2.out.set 0 _).set 1 _).set 2 _).obj Try.underlying28 rfl infoCh) rfl ?_
    exact ⟨z0, z1, z2, true, rfl, HF.out, ((HB2.out.setCell (p := ⟨w.heap.size, 0, none⟩) (Nat.le_refl _) _).setCell (p := ⟨w.heap.size, 1, none⟩) (Nat.le_refl _) _).setCell (p := ⟨w.heap.size, 2, none⟩) (Nat.le_refl _) _⟩

set_option maxRecDepth 100000 in
set_option maxHeartbeats 1000000 in
theorem rfind_any (a : Option Addr) (n c : Nat) (l : List (List Int)) (k : Int) (w : World) (h : RdM 3 w a n c l) :
    Calls Try.prog 11 #[.slice a n c, .int .i64 k] w (FndR k l w) := by
  have hs := h.small
  have HL := hid h.len
  have hb := bel_new w (.cells #[.int .i64 0, .int .i64 0, .int .i64 0] 28)
  have H := hid h
  have HK := hid (bk_new w #[.int .i64 0, .int .i64 0, .int .i64 0] 28)
  have HB := hid hb
  clear h hb
  go_enter Try.func11, Try.ntmps11
  go_wp2
  go_loopw [6] (fun i wr => ∃ j : Nat, i = .int .i64 j ∧ j ≤ n ∧ (∀ i y, i < j → l[i]? = some y → hd y ≠ k) ∧ Bk wr w.heap.size 28 #[.int .i64 0, .int .i64 0, .int .i64 0] ∧ RowKit.Below w.heap.size w wr) (fun i _ => n - (numOf i).toNat)
  case atStart => exact ⟨0, rfl, by omega, fun k r hk => absurd hk (by omega), HK.out, HB.out⟩
  case round =>
    obtain ⟨j, rfl, hj, hN, hK2, hB2⟩ := hrel
    have HN := hid hN
    have HK2 := hid hK2
    have HB2 := hid hB2
    have f0 := hK2.fz
    have c0 := hK2.cell 0
    have c1 := hK2.cell 1
    have c2 := hK2.cell 2
    have HX : Hid (∀ z0 z1 z2 : Int, RowKit.Below w.heap.size w (((wr.setCell ⟨w.heap.size, 0, none⟩ (.int .i64 z0)).setCell ⟨w.heap.size, 1, none⟩ (.int .i64 z1)).setCell ⟨w.heap.size, 2, none⟩ (.int .i64 z2))) := fun z0 z1 z2 => ((hB2.setCell (p := ⟨w.heap.size, 0, none⟩) (Nat.le_refl _) _).setCell (p := ⟨w.heap.size, 1, none⟩) (Nat.le_refl _) _).setCell (p := ⟨w.heap.size, 2, none⟩) (Nat.le_refl _) _
    clear hN hK2 hB2 HK HB
    by_cases hgo : j < n
    · have e1 : decide ((j : Int) < n) = true := decide_eq_true (by omega)
      obtain ⟨b, off, z0, z1, z2, rfl, _, hr, d0, d1, d2⟩ := (H.out.on HB2.out).el3 hgo
      have HR := hid hr
      have e3 : (j : Int) < n := by omega
      clear hr
      cases hq : (z0 == k)
      · have HN2 : Hid (∀ i x, i < j + 1 → l[i]? = some x → hd x ≠ k) := fun i x hi hx => by
          rcases Nat.lt_or_ge i j with h | h
          · exact HN.out i x h hx
          · obtain rfl : i = j := by omega
            rw [HR.out] at hx
            cases hx
            rw [hd3]; simpa using hq
        go_wp2
        go_roundw
        case rel => exact ⟨j + 1, by go_num, by omega, HN2.out, HK2.out, HB2.out⟩
        case measure => simp [numOf]; omega
      · have HI : Hid (ixf k l = some j) := by
          rw [Hid, ixf_drop HN.out, drop_at' HR.out, ixf, if_pos (by rw [hd3]; simpa using hq)]
          simp
        go_wp2
        refine bodyPost_ret (results_cell_tmp' rfl _ _ w.heap.size _ _ _ _ rfl (((HK2.out.set 0 _).set 1 _).set 2 _).obj Try.underlying28 rfl infoCh) rfl ?_
        exact ⟨z0, z1, z2, true, rfl, fndV_some HI.out HR.out, HX.out _ _ _⟩
    · have e1 : decide ((j : Int) < n) = false := decide_eq_false (by omega)
      have HI : Hid (ixf k l = none) := by
        rw [Hid, ixf_drop HN.out, List.drop_eq_nil_of_le (by rw [HL.out]; omega)]
        rfl
      go_wp2
      refine bodyPost_ret (results_cell_tmp' rfl _ _ w.heap.size _ _ _ _ rfl (((HK2.out.set 0 _).set 1 _).set 2 _).obj Try.underlying28 rfl infoCh) rfl ?_
      exact ⟨0, 0, 0, false, rfl, fndV_none HI.out, HX.out _ _ _⟩

/-- Elements ahead of j are those of other IDs: so the whole has none. -/
theorem onc_iff {l : List (List Int)} : Onc l ↔ ∀ (i k : Nat) x y, k < i → l[k]? = some x → l[i]? = some y → hd x ≠ hd y := by
  unfold Onc
  rw [List.pairwise_iff_getElem]
  constructor
  · intro h i k x y hki hx hy
    obtain ⟨h1, rfl⟩ := List.getElem?_eq_some_iff.1 hx
    obtain ⟨h2, rfl⟩ := List.getElem?_eq_some_iff.1 hy
    exact h k i h1 h2 hki
  · intro h k i h1 h2 hki
    exact h i k _ _ hki (List.getElem?_eq_getElem h1) (List.getElem?_eq_getElem h2)

set_option maxRecDepth 100000 in
set_option maxHeartbeats 1000000 in
theorem once_any (a : Option Addr) (n c : Nat) (l : List (List Int)) (w : World) (h : RdM 3 w a n c l) :
    Calls Try.prog 23 #[.slice a n c] w fun e w' => ∃ b, e = .returned (.bool b) ∧ (b = true → Onc l) ∧ Below w.heap.size w w' := by
  have hs := h.small
  have HL := hid h.len
  have H := hid h
  clear h
  go_enter Try.func23, Try.ntmps23
  go_wp2
  go_loopw [3] (fun i wr => ∃ j : Nat, i = .int .i64 j ∧ j ≤ n ∧ (∀ (i k : Nat) x y, i < j → k < i → l[k]? = some x → l[i]? = some y → hd x ≠ hd y) ∧ ∃ q, wr = w.drewN q) (fun i _ => n - (numOf i).toNat)
  case atStart => exact ⟨0, rfl, by omega, fun i k x y hi => absurd hi (by omega), 0, rfl⟩
  case round =>
    obtain ⟨j, rfl, hj, hN, q, rfl⟩ := hrel
    have HN := hid hN
    clear hN
    by_cases hgo : j < n
    · have e1 : decide ((j : Int) < n) = true := decide_eq_true (by omega)
      have e3 : (j : Int) < n := by omega
      obtain ⟨b, off, z0, z1, z2, rfl, _, hr, d0, d1, d2⟩ := H.out.el3 hgo
      have HR := hid hr
      clear hr
      go_wp2
      go_loopw [4] (fun i wr => ∃ k : Nat, i = .int .i64 k ∧ k ≤ j ∧ (∀ (i : Nat) x, i < k → l[i]? = some x → hd x ≠ z0) ∧ ∃ q, wr = w.drewN q) (fun i _ => j - (numOf i).toNat)
      case atStart => exact ⟨0, rfl, by omega, fun i x hi => absurd hi (by omega), q, rfl⟩
      case round =>
        obtain ⟨k, rfl, hk, hM, r, rfl⟩ := hrel
        have HM := hid hM
        clear hM
        by_cases hgo2 : k < j
        · have e5 : decide ((k : Int) < j) = true := decide_eq_true (by omega)
          have e6 : (k : Int) < n := by omega
          obtain ⟨b', off', y0, y1, y2, hab, _, hr2, t0, t1, t2⟩ := H.out.el3 (j := k) (by omega)
          cases hab
          have HR2 := hid hr2
          clear hr2
          cases hq : (y0 == z0)
          · have HM2 : Hid (∀ (i : Nat) x, i < k + 1 → l[i]? = some x → hd x ≠ z0) := fun i x hi hx => by
              rcases Nat.lt_or_ge i k with h | h
              · exact HM.out i x h hx
              · obtain rfl : i = k := by omega
                rw [HR2.out] at hx
                cases hx
                rw [hd3]; simpa using hq
            go_wp2
            go_quiet (fail)
            go_wp2
            go_roundw
            case rel => exact ⟨k + 1, by go_num, by omega, HM2.out, _, rfl⟩
            case measure => simp [numOf]; omega
          · go_wp2
            go_quiet (fail)
            go_wp2
            go_ret
            exact ⟨false, rfl, (fun h => by cases h), below_drewN (below_drewN (Below.refl _ _) _) _⟩
        · have e5 : decide ((k : Int) < j) = false := decide_eq_false (by omega)
          have HN2 : Hid (∀ (i k : Nat) x y, i < j + 1 → k < i → l[k]? = some x → l[i]? = some y → hd x ≠ hd y) := fun i k' x y hi hk' hx hy => by
            rcases Nat.lt_or_ge i j with h | h
            · exact HN.out i k' x y h hk' hx hy
            · obtain rfl : i = j := by omega
              rw [HR.out] at hy
              cases hy
              exact HM.out k' x (by omega) hx
          go_wp2
          go_roundw
          case rel => exact ⟨j + 1, by go_num, by omega, HN2.out, _, rfl⟩
          case measure => simp [numOf]; omega
    · have e1 : decide ((j : Int) < n) = false := decide_eq_false (by omega)
      have HO : Hid (Onc l) := onc_iff.2 fun i k x y hki hx hy => HN.out i k x y (by
        have := (List.getElem?_eq_some_iff.1 hy).1
        rw [HL.out] at this
        omega) hki hx hy
      go_wp2
      go_ret
      exact ⟨true, rfl, fun _ => HO.out, below_drewN (Below.refl _ _) _⟩
end Go.Proofs.Ytcdflegfjannmaa
