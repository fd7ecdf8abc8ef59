/- The contracts of the document's own answer for chapter 4 (tableauref04): Get: it gets the same as the program's. -/
import Derived.Test.YtoggnfadfocogaaDoorRef4A
import Derived.Test.YtoggnfadfocogaaDoorRef4C
namespace Go.Proofs.YtoggnfadfocogaaDoor
open Go Go.RowKit

set_option maxRecDepth 100000 in
set_option maxHeartbeats 800000 in
theorem rGetM_any (o q : Int) (t s : ByteArray) (ht : t.size ≤ 1000000) (hs : s.size ≤ 1000000) (w : World) :
    Calls Tryd.prog 15 #[.agg #[.int .i64 o, .int .i64 q, .string t], .string s] w fun e w' => ∃ v, e = .returned (.tuple #[v, .int .i64 (gotE o q t.data.toList s.data.toList : Nat)]) ∧ GotIs w.heap.size w' o q t.data.toList s.data.toList v ∧ Below w.heap.size w w' := by
  obtain ⟨iA, hiA, hzA0, hzA1, hzA2⟩ := info_parts infoArg
  obtain ⟨c4, w4, hcv, q4, b4, s4⟩ := bytes_of t ht (((w.alloc (.cells #[.int .i64 o, .int .i64 q, .string t] 26)).alloc (.cells #[.int .i64 0, .int .i64 0, .slice none 0 0] 24)).alloc (.cells #[.int .i64 o, .int .i64 q, .slice none 0 0] 24))
  simp only [World.size_alloc] at hcv q4 s4
  have hbw : Below w.heap.size w w4 := by
    have h1 : Below w.heap.size w (((w.alloc (.cells #[.int .i64 o, .int .i64 q, .string t] 26)).alloc (.cells #[.int .i64 0, .int .i64 0, .slice none 0 0] 24)).alloc (.cells #[.int .i64 o, .int .i64 q, .slice none 0 0] 24)) := (((Below.refl _ _).alloc (Nat.le_refl _) _).alloc (by simp) _).alloc (by simp; omega) _
    exact h1.trans (b4.mono h1.size)
  have hv4 : w4.heap[w.heap.size + 1 + 1]? = some (.cells #[.int .i64 o, .int .i64 q, .slice none 0 0] 24 (0, 0)) := by
    rw [b4.block _ (by simp)]
    have h := heap_alloc_new ((w.alloc (.cells #[.int .i64 o, .int .i64 q, .string t] 26)).alloc (.cells #[.int .i64 0, .int .i64 0, .slice none 0 0] 24)) (.cells #[.int .i64 o, .int .i64 q, .slice none 0 0] 24)
    simpa only [World.size_alloc] using h
  have hr4 : w4.heap[w.heap.size + 1]? = some (.cells #[.int .i64 0, .int .i64 0, .slice none 0 0] 24 (0, 0)) := by
    rw [b4.block _ (by simp), Below.heap_alloc _ _ _ (by simp)]
    have h := heap_alloc_new (w.alloc (.cells #[.int .i64 o, .int .i64 q, .string t] 26)) (.cells #[.int .i64 0, .int .i64 0, .slice none 0 0] 24)
    simpa only [World.size_alloc] using h
  have G0 : Hid (GI w w4 w4 o q none 0 0 []) := ⟨rfl, rfl, rfl, Nat.le_refl _, fun _ _ _ => rfl, hv4, World.ownsRow_nil _ _ _ _⟩
  have HQ4 : Hid (Rd w4 (some ⟨w.heap.size + 1 + 1 + 1, 0, none⟩) t.size c4 t.data.toList) := q4
  have HBW : Hid (Below w.heap.size w w4) := hbw
  have HR4 : Hid (w4.heap[w.heap.size + 1]? = some (.cells #[.int .i64 0, .int .i64 0, .slice none 0 0] 24 (0, 0))) := hr4
  have HS4 : Hid (w4.heap.size = w.heap.size + 1 + 1 + 1 + 1) := s4
  have HT : Hid (t.data.toList.length = t.size ∧ s.data.toList.length = s.size) := ⟨size_toList t, size_toList s⟩
  clear q4 b4 s4 hbw hv4 hr4
  go_enter Tryd.func15, Tryd.ntmps15
  go_wp2
  clear hcv
  go_loopw [8, 9] (fun at_ i wr => ∃ (j p : Nat) (va : Option Addr) (c : Nat) (L : List AV), j ≤ s.size ∧ i = .int .i64 j ∧ at_ = .int .i64 p ∧ Mid t.data.toList s.data.toList j p L ∧ GI w w4 wr o q va j c L) (fun _ i _ => s.size - (intOf i).toNat)
  case atStart => exact ⟨0, 0, none, 0, [], Nat.zero_le _, rfl, rfl, Mid.start _ _, G0.out⟩
  case round =>
    obtain ⟨j, p, va, c, L, hj, rfl, rfl, hM, hG⟩ := hrel
    have HM : Hid (Mid t.data.toList s.data.toList j p L) := hM
    have HG : Hid (GI w w4 wr o q va j c L) := hG
    have hp : p ≤ 1000000 := by have := hM.2.1; have := HT.out.1; omega
    clear hM hG G0
    by_cases hlt : j < s.size
    · have hz := str_at s j hlt
      have HC : Hid (Calls Tryd.prog 31 #[.slice (some ⟨w.heap.size + 1 + 1 + 1, 0, none⟩) t.size c4, .int .i64 p, .int .u8 (s[j].toNat : Nat)] wr fun e w' => e = .returned (.tuple #[argV s[j].toNat (rdN t.data.toList p s[j].toNat) (rdS t.data.toList p s[j].toNat), .int .i64 (rdX t.data.toList p s[j].toNat : Nat), .int .i64 (gaE t.data.toList p s[j].toNat : Nat)]) ∧ Below wr.heap.size wr w') :=
        one_any wr _ t.size c4 _ (HG.out.body HQ4.out (by rw [HS4.out]; omega)) (by omega) p hp _
      by_cases h0 : gaE t.data.toList p s[j].toNat = 0
      · have HN : Hid (Mid t.data.toList s.data.toList (j + 1) (gaX t.data.toList p s[j].toNat) (L ++ [gaA t.data.toList p s[j].toNat])) := HM.out.step (by rw [HT.out.1]; omega) _ hz h0
        have eA : gaA t.data.toList p s[j].toNat = ⟨s[j].toNat, rdN t.data.toList p s[j].toNat, ⟨(rdS t.data.toList p s[j].toNat).toArray⟩⟩ := by rw [gaA, if_pos h0]
        have eX : gaX t.data.toList p s[j].toNat = rdX t.data.toList p s[j].toNat := by rw [gaX, if_pos h0]
        have eV : argV s[j].toNat (rdN t.data.toList p s[j].toNat) (rdS t.data.toList p s[j].toNat) = .agg #[.int .u8 (gaA t.data.toList p s[j].toNat).k, .int .i64 (gaA t.data.toList p s[j].toNat).n, .string (gaA t.data.toList p s[j].toNat).s] := by rw [eA]; rfl
        rw [h0, eV, ← eX] at HC
        clear h0 hz HM hp eA eX eV
        generalize gaX t.data.toList p s[j].toNat = X at *
        generalize gaA t.data.toList p s[j].toNat = A at *
        go_wp2_with fail
        refine HC.out.mono ?_
        rintro e w1 ⟨rfl, b1⟩
        have hG1 := HG.out.next b1
        have hl1 : w.heap.size + 1 + 1 < w1.heap.size := (Array.getElem?_eq_some_iff.1 hG1.var).1
        have k2 : w1.cell? ⟨w.heap.size + 1 + 1, 2, none⟩ = some (.slice va j c) := by rw [World.cell?, hG1.var]; rfl
        have HF : Hid (∀ o1 v5 w5, w5.ownsRow w4.heap.size 60 3 v5 (j + 1) (acs L ++ ac A) → ((w1.alloc o1).alloc (.cells #[.int .u8 A.k, .int .i64 A.n, .string A.s] 60)).grownBy w5 (Value.slice va j c).ownBlock → ∃ a5 c5, v5 = .slice a5 (j + 1) c5 ∧ w5.cell? ⟨w.heap.size + 1 + 1, 2, none⟩ = some (.slice va j c) ∧ (∀ i, w5.frozen? ⟨w.heap.size + 1 + 1, i, none⟩ = false) ∧ GI w w4 (w5.setCell ⟨w.heap.size + 1 + 1, 2, none⟩ (.slice a5 (j + 1) c5)) o q a5 (j + 1) c5 (L ++ [A])) := fun o1 v5 w5 o5 g5 => by
          have hb2 : Below w1.heap.size w1 ((w1.alloc o1).alloc (.cells #[.int .u8 A.k, .int .i64 A.n, .string A.s] 60)) := ((Below.refl _ _).alloc (Nat.le_refl _) _).alloc (by simp) _
          have hG2 := hG1.next hb2
          obtain ⟨a5, c5, rfl⟩ : ∃ a5 c5, v5 = .slice a5 (j + 1) c5 := by
            rcases o5.2 with ⟨_, h⟩ | ⟨g, cap, cur, rfl, _⟩
            · omega
            · exact ⟨_, _, rfl⟩
          have hk4 : w.heap.size + 1 + 1 < w4.heap.size := by rw [HS4.out]; omega
          have hrow := row_lt hG2.row
          have g5' := g5
          obtain ⟨_, _, _, _, g6⟩ := g5'
          have hv : w5.heap[w.heap.size + 1 + 1]? = some (.cells #[.int .i64 o, .int .i64 q, .slice va j c] 24 (0, 0)) := by
            rw [g6 _ (Nat.lt_of_lt_of_le hk4 hG2.size) (fun hb => by have := hrow _ hb.symm; omega)]
            exact hG2.var
          exact ⟨a5, c5, rfl, by rw [World.cell?, hv]; rfl, Lib.frozen_of_heap hv, hG2.step hk4 A a5 c5 o5 g5⟩
        have HOW : Hid (∀ o1, ((w1.alloc o1).alloc (.cells #[.int .u8 A.k, .int .i64 A.n, .string A.s] 60)).ownsRow w4.heap.size 60 3 (.slice va j c) j (acs L)) := fun o1 => (hG1.row.alloc _).alloc _
        have HSR : Hid (∀ o1, Src Tryd.prog 3 22 (.slice (some ⟨w1.heap.size + 1, 0, none⟩) 1 1) 1 (ac A) ((w1.alloc o1).alloc (.cells #[.int .u8 A.k, .int .i64 A.n, .string A.s] 60))) := fun o1 => by
          have h := cells3 (w1.alloc o1) A 60
          simp only [World.size_alloc] at h
          exact Src.ofSlice _ Tryd.underlying22 ⟨w1.heap.size + 1, 0, none⟩ 1 1 (ac A) rfl h (ac_one A)
        have HZ : Hid (∀ o1, w4.heap.size ≤ ((w1.alloc o1).alloc (.cells #[.int .u8 A.k, .int .i64 A.n, .string A.s] 60)).heap.size) := fun o1 => by have := hG1.size; simp; omega
        clear hG1 b1 HC HG
        go_wp2_with (at_builtin; refine wpList_append_own_src _ rfl (.tmp 43) (.tmp 45) 22 22 rfl w4.heap.size 60 iA (.agg #[.int .u8 0, .int .i64 0, .string ⟨#[]⟩]) 3 32 Tryd.underlying22 hiA hzA0 hzA1 hzA2 rfl _ _ _ rfl (HOW.out _) _ _ _ rfl (HSR.out _) (by simp only [maxLen]; omega) (fits32 (by omega)) (HZ.out _) ?_; intro v5 w5 o5 g5; obtain ⟨a5, c5, rfl, y2, yf, G5⟩ := HF.out _ _ _ o5 g5; have HG5 : Hid _ := G5; clear o5 g5 G5 HF HOW HSR HZ k2)
        go_roundw
        case rel => exact ⟨j + 1, X, a5, c5, _, by omega, by go_num, rfl, HN.out, HG5.out⟩
        case measure => simp [intOf]; omega
      · have HX : Hid (gotE o q t.data.toList s.data.toList = gaE t.data.toList p s[j].toNat) := by
          have h1 := HM.out.1
          rw [gets_stop _ _ _ _ _ hz h0] at h1
          simp only [Hid]
          rw [gotE, h1, if_pos h0]
        have hne : ((gaE t.data.toList p s[j].toNat : Int) != 0) = true := by rw [bne_iff_ne]; omega
        have HX0 : Hid (gotE o q t.data.toList s.data.toList ≠ 0) := by simp only [Hid]; rw [HX.out]; exact h0
        have HC' : Hid (∃ N S X, Calls Tryd.prog 31 #[.slice (some ⟨w.heap.size + 1 + 1 + 1, 0, none⟩) t.size c4, .int .i64 p, .int .u8 (s[j].toNat : Nat)] wr fun e w' => e = .returned (.tuple #[.agg #[.int .u8 (s[j].toNat : Nat), .int .i64 N, .string S], .int .i64 X, .int .i64 (gaE t.data.toList p s[j].toNat : Nat)]) ∧ Below wr.heap.size wr w') := ⟨_, _, _, HC.out⟩
        obtain ⟨N, SS, X, HC2⟩ := HC'.out
        have HC3 : Hid (Calls Tryd.prog 31 #[.slice (some ⟨w.heap.size + 1 + 1 + 1, 0, none⟩) t.size c4, .int .i64 p, .int .u8 (s[j].toNat : Nat)] wr fun e w' => e = .returned (.tuple #[.agg #[.int .u8 (s[j].toNat : Nat), .int .i64 N, .string SS], .int .i64 X, .int .i64 (gaE t.data.toList p s[j].toNat : Nat)]) ∧ Below wr.heap.size wr w') := HC2
        clear HC HC' HC2 h0 hz HM hp
        generalize gaE t.data.toList p s[j].toNat = EE at *
        go_wp2_with fail
        refine HC3.out.mono ?_
        rintro e w1 ⟨rfl, b1⟩
        have hG1 := HG.out.next b1
        have hz1 : w1.heap[w.heap.size + 1]? = some (.cells #[.int .i64 0, .int .i64 0, .slice none 0 0] 24 (0, 0)) := by
          rw [hG1.block _ (by rw [HS4.out]; omega) (by omega)]
          exact HR4.out
        have zl : w.heap.size + 1 < w1.heap.size := (Array.getElem?_eq_some_iff.1 hz1).1
        have z0 : w1.cell? ⟨w.heap.size + 1, 0, none⟩ = some (.int .i64 0) := by rw [World.cell?, hz1]; rfl
        have z1 : w1.cell? ⟨w.heap.size + 1, 1, none⟩ = some (.int .i64 0) := by rw [World.cell?, hz1]; rfl
        have z2 : w1.cell? ⟨w.heap.size + 1, 2, none⟩ = some (.slice none 0 0) := by rw [World.cell?, hz1]; rfl
        have zf : ∀ k, w1.frozen? ⟨w.heap.size + 1, k, none⟩ = false := Lib.frozen_of_heap hz1
        have HB : Hid (Below w.heap.size w w1) := hG1.bel HBW.out
        clear hz1 hG1 b1 HC3 HG
        go_wp2
        refine bodyPost_ret (v := .tuple #[.agg #[.int .i64 0, .int .i64 0, .slice none 0 0], .int .i64 (EE : Nat)]) ?_ rfl ⟨_, by rw [HX.out], gotIs_not HX0.out, ?_⟩
        · simp [results, Tryd.results15, go_sem, z0, z1, z2, zl]
        · have hb3 : Below w.heap.size w (((w1.setCell ⟨w.heap.size + 1, 0, none⟩ (.int .i64 0)).setCell ⟨w.heap.size + 1, 1, none⟩ (.int .i64 0)).setCell ⟨w.heap.size + 1, 2, none⟩ (.slice none 0 0)) := ((HB.out.setCell (p := ⟨w.heap.size + 1, 0, none⟩) (Nat.le_succ _) _).setCell (p := ⟨w.heap.size + 1, 1, none⟩) (Nat.le_succ _) _).setCell (p := ⟨w.heap.size + 1, 2, none⟩) (Nat.le_succ _) _
          exact hb3.alloc hb3.size _
    · have hjn : j = s.size := by omega
      have hgets : gets t.data.toList 0 s.data.toList = (0, L, p) := by
        have h1 := HM.out.1
        rw [List.drop_of_length_le (by rw [HT.out.2]; omega)] at h1
        rw [h1]
        simp [gets]
      have HGT : Hid (gets t.data.toList 0 s.data.toList = (0, L, p)) := hgets
      have hpl : p ≤ t.size := by rw [← HT.out.1]; exact HM.out.2.1
      have hz1 : wr.heap[w.heap.size + 1]? = some (.cells #[.int .i64 0, .int .i64 0, .slice none 0 0] 24 (0, 0)) := by
        rw [HG.out.block _ (by rw [HS4.out]; omega) (by omega)]
        exact HR4.out
      by_cases hpt : p < t.size
      · have e1 : ((p : Int) != t.size) = true := by rw [bne_iff_ne]; omega
        have HX : Hid (gotE o q t.data.toList s.data.toList = 3) := by
          simp only [Hid]
          rw [gotE, HGT.out, if_neg (by simp), if_pos (by rw [HT.out.1]; exact hpt)]
        have zl : w.heap.size + 1 < wr.heap.size := (Array.getElem?_eq_some_iff.1 hz1).1
        have z0 : wr.cell? ⟨w.heap.size + 1, 0, none⟩ = some (.int .i64 0) := by rw [World.cell?, hz1]; rfl
        have z1 : wr.cell? ⟨w.heap.size + 1, 1, none⟩ = some (.int .i64 0) := by rw [World.cell?, hz1]; rfl
        have z2 : wr.cell? ⟨w.heap.size + 1, 2, none⟩ = some (.slice none 0 0) := by rw [World.cell?, hz1]; rfl
        have zf : ∀ k, wr.frozen? ⟨w.heap.size + 1, k, none⟩ = false := Lib.frozen_of_heap hz1
        have HB : Hid (Below w.heap.size w wr) := HG.out.bel HBW.out
        clear hz1 HG HGT hgets HM hpl hjn hpt
        go_wp2
        refine bodyPost_ret (v := .tuple #[.agg #[.int .i64 0, .int .i64 0, .slice none 0 0], .int .i64 (3 : Nat)]) ?_ rfl ⟨_, by rw [HX.out], gotIs_not (by rw [HX.out]; decide), ?_⟩
        · simp [results, Tryd.results15, go_sem, z0, z1, z2]
        · exact ((HB.out.setCell (p := ⟨w.heap.size + 1, 0, none⟩) (Nat.le_succ _) _).setCell (p := ⟨w.heap.size + 1, 1, none⟩) (Nat.le_succ _) _).setCell (p := ⟨w.heap.size + 1, 2, none⟩) (Nat.le_succ _) _
      · have e1 : ((p : Int) != t.size) = false := by rw [bne_eq_false_iff_eq]; omega
        have HX : Hid (gotE o q t.data.toList s.data.toList = noB (chk o q L s.data.toList)) := by
          simp only [Hid]
          rw [gotE, HGT.out, if_neg (by simp), if_neg (by rw [HT.out.1]; exact hpt)]
        have hL := HM.out.2.2.2
        obtain ⟨va', c', hv', hrd, hblk⟩ := rda_of_owns HG.out.row (fun x hx => (hL x hx).1)
        obtain ⟨rfl, rfl⟩ : va = va' ∧ c = c' := by cases hv'; exact ⟨rfl, rfl⟩
        have hsm : Small L := fun x hx => by have := (hL x hx).2; omega
        have HC : Hid (Calls Tryd.prog 21 #[.agg #[.int .i64 o, .int .i64 q, .slice va j c], .string s] wr fun e w' => e = .returned (.int .i64 (noB (chk o q L s.data.toList) : Nat)) ∧ Below wr.heap.size wr w') :=
          rcheck_any o q va j c L s wr hrd hsm (by omega)
        have y0 : wr.cell? ⟨w.heap.size + 1 + 1, 0, none⟩ = some (.int .i64 o) := by rw [World.cell?, HG.out.var]; rfl
        have y1 : wr.cell? ⟨w.heap.size + 1 + 1, 1, none⟩ = some (.int .i64 q) := by rw [World.cell?, HG.out.var]; rfl
        have y2 : wr.cell? ⟨w.heap.size + 1 + 1, 2, none⟩ = some (.slice va j c) := by rw [World.cell?, HG.out.var]; rfl
        have HRD : Hid (RdA wr va j c L ∧ Small L ∧ ∀ x, va = some x → w4.heap.size ≤ x.block) := ⟨hrd, hsm, fun x hx => (hblk x hx).1⟩
        have HV : Hid (∀ u, Below wr.heap.size wr u → u.heap[w.heap.size + 1]? = some (.cells #[.int .i64 0, .int .i64 0, .slice none 0 0] 24 (0, 0)) ∧ u.heap[w.heap.size + 1 + 1]? = some (.cells #[.int .i64 o, .int .i64 q, .slice va j c] 24 (0, 0)) ∧ Below w.heap.size w u ∧ RdA u va j c L) := fun u hu =>
          ⟨by rw [hu.block _ (Array.getElem?_eq_some_iff.1 hz1).1]; exact hz1, by rw [hu.block _ (Array.getElem?_eq_some_iff.1 HG.out.var).1]; exact HG.out.var, Below.on (HG.out.bel HBW.out) hu, hrd.below hu hrd.low⟩
        clear hz1 HG hgets HM hpl hrd hsm hblk hL hv' hjn hpt
        generalize hq : chk o q L s.data.toList = Q at *
        cases Q with
        | false =>
          go_wp2_with fail
          refine HC.out.mono ?_
          rintro e w1 ⟨rfl, b1⟩
          obtain ⟨hz1, hy1, hb1, _⟩ := HV.out w1 b1
          have zl : w.heap.size + 1 < w1.heap.size := (Array.getElem?_eq_some_iff.1 hz1).1
          have z0 : w1.cell? ⟨w.heap.size + 1, 0, none⟩ = some (.int .i64 0) := by rw [World.cell?, hz1]; rfl
          have z1 : w1.cell? ⟨w.heap.size + 1, 1, none⟩ = some (.int .i64 0) := by rw [World.cell?, hz1]; rfl
          have z2 : w1.cell? ⟨w.heap.size + 1, 2, none⟩ = some (.slice none 0 0) := by rw [World.cell?, hz1]; rfl
          have zf : ∀ k, w1.frozen? ⟨w.heap.size + 1, k, none⟩ = false := Lib.frozen_of_heap hz1
          have HB : Hid (Below w.heap.size w w1) := hb1
          have nb : noB false = 1 := rfl
          clear hz1 hy1 hb1 b1 HC HV HRD
          go_wp2
          refine bodyPost_ret (v := .tuple #[.agg #[.int .i64 0, .int .i64 0, .slice none 0 0], .int .i64 (1 : Nat)]) ?_ rfl ⟨_, by rw [HX.out]; rfl, gotIs_not (by rw [HX.out]; decide), ?_⟩
          · simp [results, Tryd.results15, go_sem, z0, z1, z2]
          · exact ((HB.out.setCell (p := ⟨w.heap.size + 1, 0, none⟩) (Nat.le_succ _) _).setCell (p := ⟨w.heap.size + 1, 1, none⟩) (Nat.le_succ _) _).setCell (p := ⟨w.heap.size + 1, 2, none⟩) (Nat.le_succ _) _
        | true =>
          go_wp2_with fail
          refine HC.out.mono ?_
          rintro e w1 ⟨rfl, b1⟩
          obtain ⟨hz1, hy1, hb1, hrd1⟩ := HV.out w1 b1
          have zl : w.heap.size + 1 < w1.heap.size := (Array.getElem?_eq_some_iff.1 hz1).1
          have z0 : w1.cell? ⟨w.heap.size + 1, 0, none⟩ = some (.int .i64 0) := by rw [World.cell?, hz1]; rfl
          have z1 : w1.cell? ⟨w.heap.size + 1, 1, none⟩ = some (.int .i64 0) := by rw [World.cell?, hz1]; rfl
          have z2 : w1.cell? ⟨w.heap.size + 1, 2, none⟩ = some (.slice none 0 0) := by rw [World.cell?, hz1]; rfl
          have zf : ∀ k, w1.frozen? ⟨w.heap.size + 1, k, none⟩ = false := Lib.frozen_of_heap hz1
          have x0 : w1.cell? ⟨w.heap.size + 1 + 1, 0, none⟩ = some (.int .i64 o) := by rw [World.cell?, hy1]; rfl
          have x1 : w1.cell? ⟨w.heap.size + 1 + 1, 1, none⟩ = some (.int .i64 q) := by rw [World.cell?, hy1]; rfl
          have x2 : w1.cell? ⟨w.heap.size + 1 + 1, 2, none⟩ = some (.slice va j c) := by rw [World.cell?, hy1]; rfl
          have HB : Hid (Below w.heap.size w w1) := hb1
          have HR1 : Hid (RdA w1 va j c L) := hrd1
          have nb : noB true = 0 := rfl
          clear hz1 hy1 hb1 b1 HC HV hrd1
          go_wp2
          refine bodyPost_ret (v := .tuple #[.agg #[.int .i64 o, .int .i64 q, .slice va j c], .int .i64 (0 : Nat)]) ?_ rfl ⟨_, by rw [HX.out]; rfl, ?_, ?_⟩
          · simp [results, Tryd.results15, go_sem, z0, z1, z2]
          · have hX0 : gotE o q t.data.toList s.data.toList = 0 := HX.out
            have hne : ∀ x, va = some x → x.block ≠ w.heap.size + 1 := fun x hx => by have := HRD.out.2.2 x hx; have := HS4.out; omega
            have eL : gotL o q t.data.toList s.data.toList = L := by rw [gotL, if_pos hX0, HGT.out]
            refine ⟨va, j, c, by rw [gotO, gotQ, if_pos hX0, if_pos hX0], ?_, ?_, fun x hx => by have := HRD.out.2.2 x hx; have := HS4.out; omega⟩
            · rw [eL]
              exact ((HR1.out.set _ 0 _ hne).set _ 1 _ hne).set _ 2 _ hne
            · rw [eL]
              exact HRD.out.2.1
          · exact ((HB.out.setCell (p := ⟨w.heap.size + 1, 0, none⟩) (Nat.le_succ _) _).setCell (p := ⟨w.heap.size + 1, 1, none⟩) (Nat.le_succ _) _).setCell (p := ⟨w.heap.size + 1, 2, none⟩) (Nat.le_succ _) _
end Go.Proofs.YtoggnfadfocogaaDoor
