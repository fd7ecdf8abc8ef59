/- Lemmas that the proof leans on. -/
import Derived.Test.YtdgknofpkafppaaGreatDoorB04
namespace Go.Proofs.YtdgknofpkafppaaGreatDoor
open Go Go.RowKit
set_option maxRecDepth 100000
set_option maxHeartbeats 1000000
section
theorem fndV_some {k : Int} {l : List (List Int)} {i : Nat} {z0 z1 z2 : Int} (h : ixf k l = some i) (hz : l[i]? = some [z0, z1, z2]) : FndV k l (.agg #[.int .i64 z0, .int .i64 z1, .int .i64 z2]) true := by
 obtain ⟨_, h2, _⟩ := ixf_some h
 rw [hz] at h2
 unfold FndV
 rw [h2]
 exact ⟨rfl, rfl⟩
theorem fndV_none {k : Int} {l : List (List Int)} (h : ixf k l = none) : FndV k l (.agg #[.int .i64 0, .int .i64 0, .int .i64 0]) false := by
 unfold FndV
 rw [(ixf_none h).2]
 exact ⟨rfl, rfl⟩
def FndR (k : Int) (l : List (List Int)) (w : World) (e : Ending) (w' : World) : Prop := ∃ z0 z1 z2 b, e = .returned (.tuple #[.agg #[.int .i64 z0, .int .i64 z1, .int .i64 z2], .bool b]) ∧ FndV k l (.agg #[.int .i64 z0, .int .i64 z1, .int .i64 z2]) b ∧ Below w.heap.size w w'
theorem find_any (a : Option Addr) (n c : Nat) (l : List (List Int)) (k : Int) (w : World) (h : RdM 3 w a n c l) :
  Calls Tryz.prog 53 #[.slice a n c, .int .i64 k] w (FndR k l w) := by
 have hs := h.small
 have hl := h.len
 have hb := bel_new w (.cells #[.int .i64 0, .int .i64 0, .int .i64 0] 82)
 have h1 := h.on hb
 have CI := hid (index_any a n c l k _ h1)
 have HK := hid (bk_new w #[.int .i64 0, .int .i64 0, .int .i64 0] 82)
 have HB := hid hb
 cases hx : ixf k l with
 | none =>
  have hi : ixI k l = -1 := by rw [ixI, hx]
  rw [hi] at CI
  have HF := hid (fndV_none hx)
  clear h h1 hb hx hi hl
  go_enter Tryz.func53, Tryz.ntmps53
  go_wp2_with fail
  refine CI.out.mono ?_
  rintro e w2 ⟨rfl, hb2⟩
  have HB2 := hid (Below.on HB.out hb2)
  have HK2 := hid (HK.out.on hb2)
  have f0 := HK2.out.fz
  have c0 := HK2.out.cell 0
  have c1 := HK2.out.cell 1
  have c2 := HK2.out.cell 2
  clear hb2
  go_wp2
  refine bodyPost_ret (results_cell_tmp' rfl _ _ w.heap.size _ _ _ _ rfl (((HK2.out.set 0 _).set 1 _).set 2 _).obj Tryz.underlying82 rfl infoCh) rfl ?_
  exact ⟨0, 0, 0, false, rfl, HF.out, ((HB2.out.setCell (p := ⟨w.heap.size, 0, none⟩) (Nat.le_refl _) _).setCell (p := ⟨w.heap.size, 1, none⟩) (Nat.le_refl _) _).setCell (p := ⟨w.heap.size, 2, none⟩) (Nat.le_refl _) _⟩
 | some i =>
  have hi : ixI k l = i := by rw [ixI, hx]
  rw [hi] at CI
  have hin : i < n := by rw [← hl]; exact (ixf_some hx).1
  obtain ⟨b, off, z0, z1, z2, rfl, hb0, hz, d0, d1, d2⟩ := h1.el3 hin
  have HF := hid (fndV_some hx hz)
  have e1 : (i : Int) < n := by omega
  have e2 : (0 : Int) ≤ i := by omega
  clear h h1 hb hx hi hl hz
  have HD0 := hid d0
  have HD1 := hid d1
  have HD2 := hid d2
  clear d0 d1 d2
  go_enter Tryz.func53, Tryz.ntmps53
  go_wp2_with fail
  refine CI.out.mono ?_
  rintro e w2 ⟨rfl, hb2⟩
  have HB2 := hid (Below.on HB.out hb2)
  have HK2 := hid (HK.out.on hb2)
  have f0 := HK2.out.fz
  have c0 := HK2.out.cell 0
  have c1 := HK2.out.cell 1
  have c2 := HK2.out.cell 2
  have d0 : w2.cell? ⟨b, off + i * 3, none⟩ = some (.int .i64 z0) := by rw [hb2.cell hb0]; exact HD0.out
  have d1 : w2.cell? ⟨b, off + i * 3 + 1, none⟩ = some (.int .i64 z1) := by rw [hb2.cell hb0]; exact HD1.out
  have d2 : w2.cell? ⟨b, off + i * 3 + 2, none⟩ = some (.int .i64 z2) := by rw [hb2.cell hb0]; exact HD2.out
  clear hb2
  go_wp2
  refine bodyPost_ret (results_cell_tmp' rfl _ _ w.heap.size _ _ _ _ rfl (((HK2.out.set 0 _).set 1 _).set 2 _).obj Tryz.underlying82 rfl infoCh) rfl ?_
  exact ⟨z0, z1, z2, true, rfl, HF.out, ((HB2.out.setCell (p := ⟨w.heap.size, 0, none⟩) (Nat.le_refl _) _).setCell (p := ⟨w.heap.size, 1, none⟩) (Nat.le_refl _) _).setCell (p := ⟨w.heap.size, 2, none⟩) (Nat.le_refl _) _⟩
theorem rfind_any (a : Option Addr) (n c : Nat) (l : List (List Int)) (k : Int) (w : World) (h : RdM 3 w a n c l) :
  Calls Tryz.prog 124 #[.slice a n c, .int .i64 k] w (FndR k l w) := by
 have hs := h.small
 have HL := hid h.len
 have hb := bel_new w (.cells #[.int .i64 0, .int .i64 0, .int .i64 0] 82)
 have H := hid h
 have HK := hid (bk_new w #[.int .i64 0, .int .i64 0, .int .i64 0] 82)
 have HB := hid hb
 clear h hb
 go_enter Tryz.func124, Tryz.ntmps124
 go_wp2
 go_loopw [6] (fun i wr => ∃ j : Nat, i = .int .i64 j ∧ j ≤ n ∧ (∀ i y, i < j → l[i]? = some y → hd y ≠ k) ∧ Bk wr w.heap.size 82 #[.int .i64 0, .int .i64 0, .int .i64 0] ∧ RowKit.Below w.heap.size w wr) (fun i _ => n - (numOf i).toNat)
 case atStart => exact ⟨0, rfl, by omega, fun k r hk => absurd hk (by omega), HK.out, HB.out⟩
 case round =>
  obtain ⟨j, rfl, hj, hN, hK2, hB2⟩ := hrel
  have HN := hid hN
  have HK2 := hid hK2
  have HB2 := hid hB2
  have f0 := hK2.fz
  have c0 := hK2.cell 0
  have c1 := hK2.cell 1
  have c2 := hK2.cell 2
  have HX : Hid (∀ z0 z1 z2 : Int, RowKit.Below w.heap.size w (((wr.setCell ⟨w.heap.size, 0, none⟩ (.int .i64 z0)).setCell ⟨w.heap.size, 1, none⟩ (.int .i64 z1)).setCell ⟨w.heap.size, 2, none⟩ (.int .i64 z2))) := fun z0 z1 z2 => ((hB2.setCell (p := ⟨w.heap.size, 0, none⟩) (Nat.le_refl _) _).setCell (p := ⟨w.heap.size, 1, none⟩) (Nat.le_refl _) _).setCell (p := ⟨w.heap.size, 2, none⟩) (Nat.le_refl _) _
  clear hN hK2 hB2 HK HB
  by_cases hgo : j < n
  ·have e1 : decide ((j : Int) < n) = true := decide_eq_true (by omega)
   obtain ⟨b, off, z0, z1, z2, rfl, _, hr, d0, d1, d2⟩ := (H.out.on HB2.out).el3 hgo
   have HR := hid hr
   have e3 : (j : Int) < n := by omega
   clear hr
   cases hq : (z0 == k)
   ·have HN2 : Hid (∀ i x, i < j + 1 → l[i]? = some x → hd x ≠ k) := fun i x hi hx => by
     rcases Nat.lt_or_ge i j with h | h
     ·exact HN.out i x h hx
     ·obtain rfl : i = j := by omega
      rw [HR.out] at hx
      cases hx
      rw [hd3]; simpa using hq
    go_wp2
    go_roundw
    case rel => exact ⟨j + 1, by go_num, by omega, HN2.out, HK2.out, HB2.out⟩
    case measure => simp [numOf]; omega
   ·have HI : Hid (ixf k l = some j) := by
     rw [Hid, ixf_drop HN.out, drop_at' HR.out, ixf, if_pos (by rw [hd3]; simpa using hq)]
     simp
    go_wp2
    refine bodyPost_ret (results_cell_tmp' rfl _ _ w.heap.size _ _ _ _ rfl (((HK2.out.set 0 _).set 1 _).set 2 _).obj Tryz.underlying82 rfl infoCh) rfl ?_
    exact ⟨z0, z1, z2, true, rfl, fndV_some HI.out HR.out, HX.out _ _ _⟩
  ·have e1 : decide ((j : Int) < n) = false := decide_eq_false (by omega)
   have HI : Hid (ixf k l = none) := by
    rw [Hid, ixf_drop HN.out, List.drop_eq_nil_of_le (by rw [HL.out]; omega)]
    rfl
   go_wp2
   refine bodyPost_ret (results_cell_tmp' rfl _ _ w.heap.size _ _ _ _ rfl (((HK2.out.set 0 _).set 1 _).set 2 _).obj Tryz.underlying82 rfl infoCh) rfl ?_
   exact ⟨0, 0, 0, false, rfl, fndV_none HI.out, HX.out _ _ _⟩
end
section
theorem flat_one (l : List (List Int)) : ([l] : List (List (List Int))).flatten = l := by simp
theorem flat_two (l m : List (List Int)) : ([l, m] : List (List (List Int))).flatten = l ++ m := by simp
theorem rdl_one {m : Nat} {w : World} {a : Option Addr} {n c : Nat} {l : List (List Int)} {B T : Nat} (h : RdM m w a n c l) (hb : Bk w B T #[.slice a n c]) : RdL m w B [l] :=
 ⟨fun j x hx => by
  match j, hx with
  | 0, hx => cases hx; exact ⟨a, n, c, hb.cell 0, h, hb.lt⟩
  | j + 1, hx => simp at hx⟩
theorem rdl_two {m : Nat} {w : World} {a a' : Option Addr} {n c n' c' : Nat} {l l' : List (List Int)} {B T : Nat} (h : RdM m w a n c l) (h' : RdM m w a' n' c' l') (hb : Bk w B T #[.slice a n c, .slice a' n' c']) : RdL m w B [l, l'] :=
 ⟨fun j x hx => by
  match j, hx with
  | 0, hx => cases hx; exact ⟨a, n, c, hb.cell 0, h, hb.lt⟩
  | 1, hx => cases hx; exact ⟨a', n', c', hb.cell 1, h', hb.lt⟩
  | j + 2, hx => simp at hx⟩
theorem take_snoc {l : List (List Int)} {j : Nat} {x : List Int} (h : l[j]? = some x) : l.take (j + 1) = l.take j ++ [x] := by
 rw [List.take_add_one, h]
 rfl
theorem src3 (w : World) (z0 z1 z2 : Int) : Src Tryz.prog 3 38 (.slice (some ⟨w.heap.size, 0, none⟩) 1 1) 1 (mcs [[z0, z1, z2]]) (w.alloc (.cells #[.int .i64 z0, .int .i64 z1, .int .i64 z2] 82)) :=
 Src.ofSlice (P := Tryz.prog) _ Tryz.underlying38 ⟨w.heap.size, 0, none⟩ 1 1 (mcs [[z0, z1, z2]]) rfl (fun q u hu => by
  match q, hu with
  | 0, hu => cases hu; simp [Addr.add]
  | 1, hu => cases hu; simp [Addr.add]
  | 2, hu => cases hu; simp [Addr.add]
  | q + 3, hu => simp [mcs] at hu) (mcs_one _)
theorem placed_any (a a' : Option Addr) (n c n' c' : Nat) (l m : List (List Int)) (w : World) (h : RdM 3 w a n c l) (h' : RdM 3 w a' n' c' m) (hn : n + n' ≤ 1000000) :
  Calls Tryz.prog 102 #[.slice a n c, .slice a' n' c'] w fun e w' => ∃ v, e = .returned v ∧ OwM 3 82 w w' v (puts l m) := by
 obtain ⟨i0, hi, hz0, hz1, hz2⟩ := infoMP infoM3
 have hs := h.small
 have hs' := h'.small
 have HL := hid h.len
 have HL' := hid h'.len
 have hb := bel_new w (.cells #[.slice a n c] 38)
 have CJ := joined3_any w.heap.size 1 1 [l] _ (rdl_one (h.on hb) (bk_new w #[.slice a n c] 38)) rfl (by omega) (by rw [flat_one, h.len]; omega)
 rw [flat_one] at CJ
 have HC := hid CJ
 have HB := hid hb
 have H' := hid h'
 clear h h' hb CJ
 go_enter Tryz.func102, Tryz.ntmps102
 go_wp2_with fail
 refine HC.out.mono ?_
 rintro e w1 ⟨v, rfl, hO⟩
 have HO := hid (hO.base HB.out)
 clear hO HC HB
 go_wp2
 go_loopw [5, 14] (fun v i wr => ∃ j : Nat, i = .int .i64 j ∧ j ≤ n' ∧ OwM 3 82 w wr v (puts l (m.take j))) (fun _ i _ => n' - (numOf i).toNat)
 case atStart => exact ⟨0, rfl, by omega, HO.out⟩
 case round =>
  obtain ⟨j, rfl, hj, hO⟩ := hrel
  have HO1 := hid hO
  obtain ⟨a0, c0, rfl, hrd, -⟩ := hO.rd
  clear hO HO
  by_cases hgo : j < n'
  ·have e1 : decide ((j : Int) < n') = true := decide_eq_true (by omega)
   have e3 : (j : Int) < n' := by omega
   obtain ⟨b, off, z0, z1, z2, rfl, hbl, hr, d0, d1, d2⟩ := (H'.out.on HO1.out.bel).el3 hgo
   have hb2 := bel_new wr (.cells #[.int .i64 z0, .int .i64 z1, .int .i64 z2] 82)
   have HK := hid (bk_new wr #[.int .i64 z0, .int .i64 z1, .int .i64 z2] 82)
   have HB := hid hb2
   have HT : Hid (puts l (m.take (j + 1)) = put1 (puts l (m.take j)) [z0, z1, z2]) := by rw [Hid, take_snoc hr, puts_snoc]
   have hN : (puts l (m.take j)).length ≤ n + n' := by
    have h1 := puts_length l (m.take j)
    have h2 := HL.out
    rw [List.length_take] at h1
    omega
   have CI := hid (index_any _ _ _ _ z0 _ (hrd.on hb2))
   clear hr hb2
   cases hx : ixf z0 (puts l (m.take j)) with
   | some i =>
    obtain ⟨hil, -, hput⟩ := ixf_some hx
    rw [hput _ rfl] at HT
    have hixI : ixI z0 (puts l (m.take j)) = i := by rw [ixI, hx]
    rw [hixI] at CI
    obtain ⟨g, cg, hv, hg1, hg2, hg3, hg4⟩ := HO1.out.plain (by omega)
    simp only [Value.slice.injEq] at hv
    obtain ⟨rfl, -, rfl⟩ := hv
    obtain ⟨N, hNN⟩ : ∃ N, (puts l (m.take j)).length = N := ⟨_, rfl⟩
    have HNN := hid hNN
    rw [hNN] at HO1 hrd hil hg3 hN CI ⊢
    have e4 : (i : Int) < N := by omega
    have e5 : (0 : Int) ≤ i := by omega
    have HRD := hid hrd
    clear hrd hx hput hixI hNN
    simp only [maxLen] at hg4
    go_wp2_with fail
    refine CI.out.mono ?_
    rintro e w2 ⟨rfl, hb3⟩
    have hO2 := (HO1.out.on HB.out).on hb3
    have hK2 := HK.out.on hb3
    have t0 := hK2.cell 0
    have t1 := hK2.cell 1
    have t2 := hK2.cell 2
    have fz := hO2.fz HNN.out
    obtain ⟨b', off', y0, y1, y2, hab, _, _, s0, s1, s2⟩ := ((HRD.out.on HB.out).on hb3).el3 hil
    cases hab
    simp only [Nat.zero_add] at s0 s1 s2
    have HO3 := hid (hO2.sto3 HNN.out hil z0 z1 z2)
    rw [← HT.out] at HO3
    clear hO2 hK2 hb3 CI HK HB
    go_wp2
    go_roundw
    case rel => exact ⟨j + 1, by go_num, by omega, HO3.out⟩
    case measure => simp [numOf]; omega
   | none =>
    obtain ⟨hno, -⟩ := ixf_none hx
    rw [put1_none (c := [z0, z1, z2]) hno] at HT
    have hixI : ixI z0 (puts l (m.take j)) = -1 := by rw [ixI, hx]
    rw [hixI] at CI
    clear hrd hx hno hixI
    go_wp2_with fail
    refine CI.out.mono ?_
    rintro e w2 ⟨rfl, hb3⟩
    have hO2 := (HO1.out.on HB.out).on hb3
    have hK2 := HK.out.on hb3
    have t0 := hK2.cell 0
    have t1 := hK2.cell 1
    have t2 := hK2.cell 2
    have hO3 := hO2.on (bel_new w2 (.cells #[.int .i64 z0, .int .i64 z1, .int .i64 z2] 82))
    have HS := hid (src3 w2 z0 z1 z2)
    have HO3 := hid hO3
    have HZ := hid hO3.own
    have hsz := hO3.bel.size
    clear hO2 hK2 hb3 CI HK HB hO3
    go_wp2_with (at_builtin; refine wpList_append_own_src _ rfl (.tmp 28) (.tmp 30) 38 38 rfl w.heap.size 82 i0 (.agg #[.int .i64 0, .int .i64 0, .int .i64 0]) 3 24 Tryz.underlying38 hi hz0 hz1 hz2 rfl _ _ _ rfl HZ.out _ _ _ rfl HS.out (by simp only [maxLen]; omega) (fitsM (by omega) (by decide)) hsz ?_; intro v3 w3 o3 g3; have HO4 := hid (HO3.out.grown (k := [[z0, z1, z2]]) (by simp) o3 g3); rw [← HT.out] at HO4; clear o3 g3)
    go_roundw
    case rel => exact ⟨j + 1, by go_num, by omega, HO4.out⟩
    case measure => simp [numOf]; omega
  ·have e1 : decide ((j : Int) < n') = false := decide_eq_false (by omega)
   have HN2 : Hid (m.take j = m) := by rw [Hid, List.take_of_length_le (by rw [HL'.out]; omega)]
   clear hrd
   go_wp2
   go_ret
   have hO := HO1.out
   rw [HN2.out] at hO ⊢
   exact ⟨_, rfl, hO⟩
theorem rdm_one3 {w : World} {B T : Nat} {z0 z1 z2 : Int} (h : Bk w B T #[.int .i64 z0, .int .i64 z1, .int .i64 z2]) : RdM 3 w (some ⟨B, 0, none⟩) 1 1 [[z0, z1, z2]] :=
 ⟨rfl, Nat.le_refl _, by decide, (fun h => by cases h), fun _ => ⟨B, 0, rfl, h.lt, fun j y hy i z hz => by
  match j, hy with
  | 0, hy =>
   cases hy
   match i, hz with
   | 0, hz => cases hz; exact h.cell 0
   | 1, hz => cases hz; exact h.cell 1
   | 2, hz => cases hz; exact h.cell 2
   | i + 3, hz => simp at hz
  | j + 1, hy => simp at hy⟩, by simp⟩
theorem sput_any (a : Option Addr) (n c : Nat) (l : List (List Int)) (z0 z1 z2 : Int) (w : World) (h : RdM 3 w a n c l) (hn : n ≤ 900000) :
  Calls Tryz.prog 64 #[.slice a n c, .agg #[.int .i64 z0, .int .i64 z1, .int .i64 z2]] w fun e w' => ∃ v, e = .returned v ∧ OwM 3 82 w w' v (put1 l [z0, z1, z2]) := by
 have hb := bel_new w (.cells #[.int .i64 z0, .int .i64 z1, .int .i64 z2] 82)
 have hb2 := bel_new (w.alloc (.cells #[.int .i64 z0, .int .i64 z1, .int .i64 z2] 82)) (.cells #[.int .i64 z0, .int .i64 z1, .int .i64 z2] 82)
 have hb3 := Below.on hb hb2
 have hk := bk_new (w.alloc (.cells #[.int .i64 z0, .int .i64 z1, .int .i64 z2] 82)) #[.int .i64 z0, .int .i64 z1, .int .i64 z2] 82
 rw [size_new] at hk
 have CP := hid (placed_any a (some ⟨w.heap.size + 1, 0, none⟩) n c 1 1 l [[z0, z1, z2]] _ (h.on hb3) (rdm_one3 hk) (by omega))
 have HB := hid hb3
 clear h hb hb2 hb3 hk
 go_enter Tryz.func64, Tryz.ntmps64
 go_wp2_with fail
 refine CP.out.mono ?_
 rintro e w1 ⟨v, rfl, hO⟩
 have HO := hid (hO.base HB.out)
 clear hO CP HB
 go_wp2
 go_ret
 exact ⟨_, rfl, HO.out⟩
theorem rput_any (a : Option Addr) (n c : Nat) (l : List (List Int)) (z0 z1 z2 : Int) (w : World) (h : RdM 3 w a n c l) (hn : n ≤ 900000) :
  Calls Tryz.prog 115 #[.slice a n c, .agg #[.int .i64 z0, .int .i64 z1, .int .i64 z2]] w fun e w' => ∃ v, e = .returned v ∧ OwM 3 82 w w' v (put1 l [z0, z1, z2]) := by
 obtain ⟨i0, hi, hn0, hn1, hn2⟩ := infoMP infoM3
 have hb := bel_new w (.cells #[.int .i64 z0, .int .i64 z1, .int .i64 z2] 82)
 have HK := hid (bk_new w #[.int .i64 z0, .int .i64 z1, .int .i64 z2] 82)
 have HS := hid ((h.on hb).src (P := Tryz.prog) (t := 38) (e := 82) Tryz.underlying38)
 have HO := hid (World.ownsRow_nil (w.alloc (.cells #[.int .i64 z0, .int .i64 z1, .int .i64 z2] 82)) (w.alloc (.cells #[.int .i64 z0, .int .i64 z1, .int .i64 z2] 82)).heap.size 82 3)
 have HL := hid h.len
 have HZ := hid h.size
 have HB := hid hb
 have hs := h.small
 clear h hb
 go_enter Tryz.func115, Tryz.ntmps115
 go_wp2_with (at_builtin; refine wpList_append_own_src _ rfl (.const (.slice none 0 0)) (.tmp 7) 38 38 rfl (w.alloc (.cells #[.int .i64 z0, .int .i64 z1, .int .i64 z2] 82)).heap.size 82 i0 (.agg #[.int .i64 0, .int .i64 0, .int .i64 0]) 3 24 Tryz.underlying38 hi hn0 hn1 hn2 rfl _ _ _ rfl HO.out _ _ _ rfl HS.out (by simp only [maxLen]; omega) (fitsM (by omega) (by decide)) (Nat.le_refl _) ?_; intro v3 w3 o3 g3; have HO3 := hid o3; have HG3 := hid g3; clear o3 g3)
 have hO3 := HO3.out
 rw [Nat.zero_add, List.nil_append] at hO3
 have hB3 : Below (w.alloc (.cells #[.int .i64 z0, .int .i64 z1, .int .i64 z2] 82)).heap.size (w.alloc (.cells #[.int .i64 z0, .int .i64 z1, .int .i64 z2] 82)) w3 := (kp_of_grown HG3.out).below (Nat.le_refl _) (fun k hk => by cases hk)
 have HK3 := hid (HK.out.on hB3)
 have hOM : OwM 3 82 (w.alloc (.cells #[.int .i64 z0, .int .i64 z1, .int .i64 z2] 82)) w3 v3 l := ⟨by rw [HL.out]; exact hO3, hB3, HZ.out⟩
 have hOM2 := hOM.base HB.out
 obtain ⟨a3, c3, rfl, hR3, hA3⟩ := hOM2.rd
 have hs3 := hR3.small
 rw [HL.out] at hOM2 hR3 ⊢
 have HOM := hid hOM2
 have HR3 := hid hR3
 clear hO3 hB3 hOM hOM2 hR3 HO3 HG3 HS HO HK hA3
 go_loopw [6] (fun i wr => ∃ j : Nat, i = .int .i64 j ∧ j ≤ n ∧ (∀ i y, i < j → l[i]? = some y → hd y ≠ z0) ∧ ∃ q, wr = w3.drewN q) (fun i _ => n - (numOf i).toNat)
 case atStart => exact ⟨0, rfl, by omega, fun k r hk => absurd hk (by omega), 0, rfl⟩
 case round =>
  obtain ⟨j, rfl, hj, hN, q, rfl⟩ := hrel
  have HN := hid hN
  clear hN
  have t0 := HK3.out.cell 0
  have t1 := HK3.out.cell 1
  have t2 := HK3.out.cell 2
  by_cases hgo : j < n
  ·have e1 : decide ((j : Int) < n) = true := decide_eq_true (by omega)
   have e3 : (j : Int) < n := by omega
   obtain ⟨g, cg, hv, hg1, hg2, hg3, hg4⟩ := HOM.out.plain (by rw [HL.out]; omega)
   rw [HL.out] at hv
   simp only [Value.slice.injEq] at hv
   obtain ⟨rfl, -, rfl⟩ := hv
   obtain ⟨b', off', y0, y1, y2, hab, _, hr, s0, s1, s2⟩ := HR3.out.el3 hgo
   cases hab
   simp only [Nat.zero_add] at s0 s1 s2
   have HR := hid hr
   clear hr
   simp only [maxLen] at hg4
   cases hq : (y0 == z0)
   ·have HN2 : Hid (∀ i x, i < j + 1 → l[i]? = some x → hd x ≠ z0) := fun i x hi hx => by
     rcases Nat.lt_or_ge i j with h | h
     ·exact HN.out i x h hx
     ·obtain rfl : i = j := by omega
      rw [HR.out] at hx
      cases hx
      rw [hd3]; simpa using hq
    go_wp2
    go_quiet (fail)
    go_wp2
    go_roundw
    case rel => exact ⟨j + 1, by go_num, by omega, HN2.out, _, rfl⟩
    case measure => simp [numOf]; omega
   ·have HI : Hid (put1 l [z0, z1, z2] = l.set j [z0, z1, z2]) := by
     have hx : ixf z0 l = some j := by
      rw [ixf_drop HN.out, drop_at' HR.out, ixf, if_pos (by rw [hd3]; simpa using hq)]
      simp
     exact (ixf_some hx).2.2 _ rfl
    have fz := HOM.out.fz HL.out
    go_wp2
    go_quiet (fail)
    have HO4 : Hid (∀ q, OwM 3 82 w (sto3 (w3.drewN q) g (j * 3) z0 z1 z2) (.slice (some ⟨g, 0, none⟩) n c3) (put1 l [z0, z1, z2])) := fun q => by
     rw [HI.out]
     exact (HOM.out.on (below_drewN (Below.refl _ _) q)).sto3 HL.out hgo z0 z1 z2
    go_wp2
    go_ret
    exact ⟨_, rfl, HO4.out _⟩
  ·have e1 : decide ((j : Int) < n) = false := decide_eq_false (by omega)
   have HI : Hid (put1 l [z0, z1, z2] = l ++ [[z0, z1, z2]]) := by
    have hx : ixf z0 l = none := by
     rw [ixf_drop HN.out, List.drop_eq_nil_of_le (by rw [HL.out]; omega)]
     rfl
    exact put1_none (ixf_none hx).1
   have hO5 := (HOM.out.on (below_drewN (Below.refl _ _) q)).on (bel_new (w3.drewN q) (.cells #[.int .i64 z0, .int .i64 z1, .int .i64 z2] 82))
   have HS := hid (src3 (w3.drewN q) z0 z1 z2)
   have HO5 := hid hO5
   have hZ5 := hO5.own
   rw [HL.out] at hZ5
   have HZ5 := hid hZ5
   have hsz := hO5.bel.size
   clear hO5 hZ5
   go_wp2_with (at_builtin; refine wpList_append_own_src _ rfl (.tmp 28) (.tmp 30) 38 38 rfl w.heap.size 82 i0 (.agg #[.int .i64 0, .int .i64 0, .int .i64 0]) 3 24 Tryz.underlying38 hi hn0 hn1 hn2 rfl _ _ _ rfl HZ5.out _ _ _ rfl HS.out (by simp only [maxLen]; omega) (fitsM (by omega) (by decide)) hsz ?_; intro v3 w3 o3 g3; have HO6 := hid (HO5.out.grown (k := [[z0, z1, z2]]) (by simp) (by rw [HL.out]; exact o3) g3); rw [← HI.out] at HO6; clear o3 g3)
   go_ret
   exact ⟨_, rfl, HO6.out⟩
theorem rputs_any (a a' : Option Addr) (n c n' c' : Nat) (l m : List (List Int)) (w : World) (h : RdM 3 w a n c l) (h' : RdM 3 w a' n' c' m) (hn : n + n' ≤ 900000) :
  Calls Tryz.prog 119 #[.slice a n c, .slice a' n' c'] w fun e w' => ∃ v, e = .returned v ∧ OwM 3 82 w w' v (puts l m) := by
 obtain ⟨i0, hi, hn0, hn1, hn2⟩ := infoMP infoM3
 have HS := hid (h.src (P := Tryz.prog) (t := 38) (e := 82) Tryz.underlying38)
 have HO := hid (World.ownsRow_nil w w.heap.size 82 3)
 have HL := hid h.len
 have HL' := hid h'.len
 have HZ := hid h.size
 have hs' := h'.small
 have H' := hid h'
 clear h h'
 go_enter Tryz.func119, Tryz.ntmps119
 go_wp2_with (at_builtin; refine wpList_append_own_src _ rfl (.const (.slice none 0 0)) (.tmp 7) 38 38 rfl w.heap.size 82 i0 (.agg #[.int .i64 0, .int .i64 0, .int .i64 0]) 3 24 Tryz.underlying38 hi hn0 hn1 hn2 rfl _ _ _ rfl HO.out _ _ _ rfl HS.out (by simp only [maxLen]; omega) (fitsM (by omega) (by decide)) (Nat.le_refl _) ?_; intro v3 w3 o3 g3; have HO3 := hid o3; have HG3 := hid g3; clear o3 g3)
 have hO3 := HO3.out
 rw [Nat.zero_add, List.nil_append] at hO3
 have HOM : Hid (OwM 3 82 w w3 v3 l) := ⟨by rw [HL.out]; exact hO3, (kp_of_grown HG3.out).below (Nat.le_refl _) (fun k hk => by cases hk), HZ.out⟩
 clear hO3 HO3 HG3 HS HO
 go_loopw [5, 6] (fun v i wr => ∃ j : Nat, i = .int .i64 j ∧ j ≤ n' ∧ OwM 3 82 w wr v (puts l (m.take j))) (fun _ i _ => n' - (numOf i).toNat)
 case atStart => exact ⟨0, rfl, by omega, HOM.out⟩
 case round =>
  obtain ⟨j, rfl, hj, hO⟩ := hrel
  have HO1 := hid hO
  obtain ⟨a0, c0, rfl, hrd, -⟩ := hO.rd
  clear hO HOM
  by_cases hgo : j < n'
  ·have e1 : decide ((j : Int) < n') = true := decide_eq_true (by omega)
   have e3 : (j : Int) < n' := by omega
   obtain ⟨b, off, z0, z1, z2, rfl, hbl, hr, d0, d1, d2⟩ := (H'.out.on HO1.out.bel).el3 hgo
   have HT : Hid (puts l (m.take (j + 1)) = put1 (puts l (m.take j)) [z0, z1, z2]) := by rw [Hid, take_snoc hr, puts_snoc]
   have hN : (puts l (m.take j)).length ≤ n + n' := by
    have h1 := puts_length l (m.take j)
    have h2 := HL.out
    rw [List.length_take] at h1
    omega
   have CP := hid (rput_any _ _ _ _ z0 z1 z2 _ hrd (by omega))
   rw [← HT.out] at CP
   clear hr hrd
   go_wp2_with fail
   refine CP.out.mono ?_
   rintro e w2 ⟨v, rfl, hO2⟩
   have HO2 := hid (hO2.base HO1.out.bel)
   clear hO2 CP
   go_wp2
   go_roundw
   case rel => exact ⟨j + 1, by go_num, by omega, HO2.out⟩
   case measure => simp [numOf]; omega
  ·have e1 : decide ((j : Int) < n') = false := decide_eq_false (by omega)
   have HN2 : Hid (m.take j = m) := by rw [Hid, List.take_of_length_le (by rw [HL'.out]; omega)]
   clear hrd
   go_wp2
   go_ret
   have hO := HO1.out
   rw [HN2.out] at hO ⊢
   exact ⟨_, rfl, hO⟩
end
end Go.Proofs.YtdgknofpkafppaaGreatDoor
