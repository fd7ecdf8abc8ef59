/- The document's All: its numbers, put in order one by one. -/
import Derived.Test.YtnfenfleahennaaDoorPolG
import Derived.Test.YtnfenfleahennaaDoorPolK
namespace Go.Proofs.YtnfenfleahennaaDoor
open Go Go.RowKit

/-- x put ahead of those from k on. -/
def insAt (s : List Int) (x : Int) (k : Nat) : List Int := s.take k ++ x :: s.drop k
theorem insAt_length (s : List Int) (x : Int) (k : Nat) : (insAt s x k).length = s.length + 1 := by
  simp only [insAt, List.length_append, List.length_cons, List.length_take, List.length_drop]
  omega
theorem insAt_end (s : List Int) (x : Int) : insAt s x s.length = s ++ [x] := by simp [insAt]
theorem insAt_perm (s : List Int) (x : Int) (k : Nat) : (insAt s x k).Perm (s ++ [x]) := by
  rw [insAt]
  refine List.perm_middle.trans ?_
  rw [List.take_append_drop]
  exact (List.perm_append_comm (l₁ := [x]) (l₂ := s))
theorem insAt_at (s : List Int) (x : Int) (k : Nat) (hk : k ≤ s.length) : (insAt s x k)[k]? = some x := by
  rw [insAt, List.getElem?_append_right (by rw [List.length_take]; omega), List.length_take, show k - min k s.length = 0 by omega]
  rfl
theorem insAt_ahead (s : List Int) (x : Int) (k j : Nat) (hj : j < k) (hk : k ≤ s.length) : (insAt s x k)[j]? = s[j]? := by
  rw [insAt, List.getElem?_append_left (by rw [List.length_take]; omega), List.getElem?_take_of_lt hj]
theorem insAt_swap (s : List Int) (x y : Int) (k : Nat) (h : s[k]? = some y) : ((insAt s x (k + 1)).set (k + 1) y).set k x = insAt s x k := by
  have hk : k < s.length := (List.getElem?_eq_some_iff.1 h).1
  have h1 : s.take (k + 1) = s.take k ++ [y] := by rw [List.take_add_one, h]; rfl
  have h2 : s.drop k = y :: s.drop (k + 1) := by rw [List.drop_eq_getElem_cons hk]; congr 1; rw [List.getElem?_eq_getElem hk] at h; exact Option.some.inj h
  have hl : (s.take k).length = k := by rw [List.length_take]; omega
  rw [insAt, insAt, h1, h2, List.append_assoc, List.set_append_right _ _ (by rw [hl]; omega), hl, show k + 1 - k = 1 by omega]
  rw [List.set_append_right _ _ (by rw [hl]; omega), hl, Nat.sub_self]
  rfl
/-- Put where it belongs, it is in order. -/
theorem insAt_sorted {s : List Int} {x : Int} {k : Nat} (hs : s.Pairwise (· ≤ ·)) (ha : ∀ y ∈ s.drop k, x < y) (hb : k = 0 ∨ ∃ y, s[k - 1]? = some y ∧ y ≤ x) (hk : k ≤ s.length) : (insAt s x k).Pairwise (· ≤ ·) := by
  have hs' := hs
  rw [← List.take_append_drop k s, List.pairwise_append] at hs'
  obtain ⟨p1, p2, p3⟩ := hs'
  rw [insAt, List.pairwise_append]
  refine ⟨p1, List.pairwise_cons.2 ⟨fun y hy => Int.le_of_lt (ha y hy), p2⟩, fun y hy z hz => ?_⟩
  have hyx : y ≤ x := by
    rcases hb with rfl | ⟨m, hm, hmx⟩
    · simp at hy
    · obtain ⟨i, hi⟩ := List.mem_iff_getElem?.1 hy
      have hik : i < k := by
        have := (List.getElem?_eq_some_iff.1 hi).1
        rw [List.length_take] at this
        omega
      rw [List.getElem?_take_of_lt hik] at hi
      rcases Nat.lt_or_ge i (k - 1) with h | h
      · have e1 := (List.getElem?_eq_some_iff.1 hi)
        have e2 := (List.getElem?_eq_some_iff.1 hm)
        obtain ⟨l1, rfl⟩ := e1
        obtain ⟨l2, rfl⟩ := e2
        exact Int.le_trans (List.pairwise_iff_getElem.1 hs i (k - 1) l1 l2 h) hmx
      · obtain rfl : i = k - 1 := by omega
        rw [hm] at hi
        cases hi
        exact hmx
  rcases List.mem_cons.1 hz with rfl | hz
  · exact hyx
  · exact p3 y hy z hz
theorem sorted_merge {s : List Int} (h : s.Pairwise (· ≤ ·)) : s.mergeSort leI = s := List.mergeSort_of_pairwise (h.imp (fun h => by simpa [leI] using h))
theorem merge_sorted (l : List Int) : (l.mergeSort leI).Pairwise (· ≤ ·) := by
  have tr : ∀ a b c : Int, leI a b = true → leI b c = true → leI a c = true := fun a b c h1 h2 => by simp only [leI, decide_eq_true_eq] at *; omega
  have to : ∀ a b : Int, (leI a b || leI b a) = true := fun a b => by simp only [leI, Bool.or_eq_true, decide_eq_true_eq]; omega
  exact (List.pairwise_mergeSort tr to l).imp (fun h => by simpa [leI] using h)

theorem srt_snoc {B : BL} {i k : Nat} {e : Int × Bf} (he : B[i]? = some e) (ha : ∀ y ∈ (srt (B.take i)).drop k, e.1 < y) (hb : k = 0 ∨ ∃ y, (srt (B.take i))[k - 1]? = some y ∧ y ≤ e.1) (hk : k ≤ (srt (B.take i)).length) : insAt (srt (B.take i)) e.1 k = srt (B.take (i + 1)) := by
  have h1 : (insAt (srt (B.take i)) e.1 k).Pairwise (· ≤ ·) := insAt_sorted (merge_sorted _) ha hb hk
  rw [← sorted_merge h1]
  refine mergeSort_of_perm_i ((insAt_perm _ _ _).trans ?_)
  have hk : keys (B.take (i + 1)) = keys (B.take i) ++ [e.1] := by rw [keys, List.take_add_one, he, List.map_append]; rfl
  rw [hk]
  exact List.Perm.append_right _ (List.mergeSort_perm _ _)
theorem srt_length (B : BL) : (srt B).length = B.length := by rw [srt, List.length_mergeSort, keys, List.length_map]

variable {base : Nat} {w w' : World} {q : Nat} {P : PL} {B : BL}

theorem own_some {U : World} {b e n c g : Nat} {xs : List Value} (h : U.ownsRow b e 1 (.slice (some ⟨g, 0, none⟩) n c) n xs) (i : Nat) (hi : i < n) : ∃ v, U.cell? ⟨g, i, none⟩ = some v := by
  have hl := h.1
  exact ⟨_, (h.cellAt i (by omega)).trans (List.getElem?_eq_getElem (by omega))⟩

set_option maxRecDepth 100000 in
set_option maxHeartbeats 2000000 in
theorem rall_any (hT : Dst base w q P B) (hn : B.length < 999) :
    Calls Tryd.prog 30 #[.pointer (some ⟨q, 0, none⟩)] w fun e w' => ∃ v, e = .returned v ∧ w'.ownsRow w.heap.size 3 1 v (srt B).length ((srt B).map encZ) ∧ Below w.heap.size w w' := by
  obtain ⟨i0, hi, hz0, hz1, hz2⟩ := info_parts infoI
  obtain ⟨pv, bv, hv, hp, hb, _⟩ := hT.var
  obtain ⟨a, c, rfl, hle, hmax, hnil, hcell⟩ := row_of hb
  have C0 : Hid (w.cell? ⟨q, 1, none⟩ = some (.slice a B.length c)) := by rw [Hid, Lib.cell_of_heap hv]; rfl
  have hq := hT.lt
  have HC := hid hcell
  have HN := hid hnil
  obtain ⟨N, hN⟩ : ∃ N, N = B.length := ⟨_, rfl⟩
  have HNN := hid hN
  rw [← hN] at C0 hle hn HC HN
  simp only [maxLen] at hmax
  clear hT hv hp hb hcell hnil hN
  have HEND : Hid (srt (B.take N) = srt B) := by rw [Hid, HNN.out, List.take_length]
  go_enter Tryd.func30, Tryd.ntmps30
  go_wp2
  go_loopw [3, 4, 5] (fun v i _ wr => ∃ j : Nat, i = .int .i64 j ∧ j ≤ N ∧ wr.ownsRow w.heap.size 3 1 v j ((srt (B.take j)).map encZ) ∧ RowKit.Below w.heap.size w wr)
    (fun _ i _ _ => N - (numOf i).toNat)
  case atStart => exact ⟨0, rfl, by omega, by simpa [srt, keys] using World.ownsRow_nil _ _ _ _, Below.refl _ _⟩
  case round =>
    obtain ⟨j, rfl, hj, hr, hbw⟩ := hrel
    have c0 := (kp_of_below hbw []).cell C0.out (by simp)
    by_cases hgo : j < N
    · have e1 : decide ((j : Int) < N) = true := decide_eq_true (by omega)
      obtain ⟨x, rfl⟩ : ∃ x, a = some x := by
        cases a with
        | none => have := (HN.out rfl).1; omega
        | some x => exact ⟨x, rfl⟩
      obtain ⟨g, rfl, _, hg, hc⟩ := HC.out x rfl
      obtain ⟨y, hy⟩ : ∃ y, B[j]? = some y := ⟨_, List.getElem?_eq_getElem (by rw [← HNN.out]; exact hgo)⟩
      have c1 : wr.cell? ⟨g, j * 8, none⟩ = some (.int .i64 y.1) := by
        have := hc (j * 8 + 0) (by omega)
        rw [show bcs B = B.flatMap bcs1 from rfl, fm_at bcs_len hy 0 (by decide)] at this
        rw [hbw.cell hg]
        exact this
      have HY := hid hy
      obtain ⟨s, hs⟩ : ∃ s, s = srt (B.take j) := ⟨_, rfl⟩
      have HS := hid hs
      have hsl : s.length = j := by rw [hs, srt_length, List.length_take, ← HNN.out]; omega
      rw [← hs] at hr
      obtain ⟨yy, hyy⟩ : ∃ yy, yy = y.1 := ⟨_, rfl⟩
      rw [← hyy] at c1
      have HYY := hid hyy
      have HA : Hid (∀ v' w', w'.ownsRow w.heap.size 3 1 v' (j + 1) (s.map encZ ++ [.int .i64 yy]) → (wr.alloc (.cells #[.int .i64 yy] 3)).grownBy w' u3.ownBlock → w'.ownsRow w.heap.size 3 1 v' (j + 1) ((insAt s yy j).map encZ) ∧ RowKit.Below w.heap.size w w') := fun v' w' o g => by
        refine ⟨?_, (hbw.alloc hbw.size _).grown g (by rw [World.size_alloc]; have := hbw.size; omega) (fun k hk => (hr.lt k hk).1)⟩
        have h1 : insAt s yy j = s ++ [yy] := by rw [← hsl, insAt_end]
        rw [h1, List.map_append]
        exact o
      have HSR : Hid (Src Tryd.prog 1 50 (.slice (some ⟨wr.heap.size, 0, none⟩) 1 1) 1 [.int .i64 yy] (wr.alloc (.cells #[.int .i64 yy] 3))) :=
        Src.ofSlice (P := Tryd.prog) _ Tryd.underlying50 ⟨wr.heap.size, 0, none⟩ 1 1 [.int .i64 yy] rfl (fun q u hu => by
          match q, hu with
          | 0, hu => cases hu; simp [Addr.add]
          | q + 1, hu => simp at hu) (by simp [Value.oneCell'])
      have HOW := hid (hr.alloc (.cells #[.int .i64 yy] 3))
      have hsz2 : w.heap.size ≤ (wr.alloc (.cells #[.int .i64 yy] 3)).heap.size := by rw [World.size_alloc]; have := hbw.size; omega
      clear hr hbw hc hy hs hyy
      go_wp2_with (at_builtin; refine wpList_append_own_src _ rfl (.tmp 15) (.tmp 24) 50 50 rfl w.heap.size 3 i0 (.int .i64 0) 1 8 Tryd.underlying50 hi hz0 hz1 hz2 rfl _ _ _ rfl HOW.out _ _ _ rfl HSR.out (by simp only [maxLen]; omega) (fits64 (by omega) 8 (by decide)) hsz2 ?_; intro v3 w3 o3 g3; obtain ⟨o4, b4⟩ := HA.out _ _ o3 g3; clear o3 g3 HA HOW HSR; obtain ⟨a4, c4, rfl, hn4, hm4, hnil4, hcell4⟩ := row_of o4; have HO4 := hid o4; have HB4 := hid b4; have HNIL := hid hnil4; have HCELL := hid hcell4; clear o4 b4 hnil4 hcell4)
      simp only [maxLen] at hm4
      obtain ⟨x4, rfl⟩ : ∃ x, a4 = some x := by
        cases a4 with
        | none => have := (HNIL.out rfl).1; omega
        | some x => exact ⟨x, rfl⟩
      obtain ⟨g4, rfl, hg4, _, _⟩ := HCELL.out x4 rfl
      clear HNIL HCELL c0 c1
      go_loopw [5] (fun i wr => ∃ k : Nat, i = .int .i64 k ∧ k ≤ j ∧ wr.ownsRow w.heap.size 3 1 (.slice (some ⟨g4, 0, none⟩) (j + 1) c4) (j + 1) ((insAt s yy k).map encZ) ∧ RowKit.Below w.heap.size w wr ∧ ∀ y ∈ s.drop k, yy < y) (fun i _ => (numOf i).toNat)
      case atStart => exact ⟨j, by go_num, Nat.le_refl _, HO4.out, HB4.out, fun y hy => by rw [List.drop_eq_nil_of_le (by omega)] at hy; cases hy⟩
      case round =>
        obtain ⟨k, rfl, hk, hr, hbw, had⟩ := hrel
        have HR := hid hr
        have HBW := hid hbw
        have HAD := hid had
        clear hr hbw had HO4 HB4
        cases k with
        | zero =>
          have e2 : decide ((0 : Int) < (0 : Nat)) = false := by decide
          have HQ : Hid (insAt s yy 0 = srt (B.take (j + 1))) := by
            rw [Hid, HS.out, HYY.out]
            exact srt_snoc HY.out (by rw [← HS.out, ← HYY.out]; exact HAD.out) (.inl rfl) (Nat.zero_le _)
          go_wp2
          go_quiet (fail)
          go_wp2
          rw [HQ.out] at HR
          exact ⟨⟨j + 1, by go_num, by omega, ownsRow_below HR.out (below_drewN (Below.refl _ _) _), below_drewN HBW.out _⟩, by simp [numOf]; omega⟩
        | succ k =>
          obtain ⟨y2, hy2⟩ : ∃ y2, s[k]? = some y2 := ⟨_, List.getElem?_eq_getElem (by omega)⟩
          have HY2 := hid hy2
          have hl := insAt_length s yy (k + 1)
          have d1 : wr.cell? ⟨g4, k + 1, none⟩ = some (.int .i64 yy) := by
            rw [HR.out.cellAt _ (by omega), List.getElem?_map, insAt_at s yy (k + 1) (by omega)]; rfl
          have d0 : wr.cell? ⟨g4, k, none⟩ = some (.int .i64 y2) := by
            rw [HR.out.cellAt _ (by omega), List.getElem?_map, insAt_ahead s yy (k + 1) k (by omega) (by omega), hy2]; rfl
          clear hy2
          have hcast : ((k + 1 : Nat) : Int) = (k : Int) + 1 := by omega
          have e2 : decide ((0 : Int) < (k : Int) + 1) = true := decide_eq_true (by omega)
          have hj0 : (0 : Int) ≤ (k : Int) + 1 := by omega
          have hj1 : (k : Int) + 1 < (j : Int) + 1 := by omega
          have hj2 : ((k : Int) + 1).toNat = k + 1 := by omega
          have hj3 : (k : Int) < (j : Int) + 1 := by omega
          have hj4 : (k : Int) + 1 - 1 = (k : Int) := by omega
          rw [hcast]
          by_cases hlt : yy < y2
          · have e3 : decide (yy < y2) = true := decide_eq_true hlt
            have hfz : ∀ i, wr.frozen? ⟨g4, i, none⟩ = false := fun i => HR.out.frozenAt i
            go_wp2
            go_quiet (fail)
            go_wp2_with fail
            have HD1 : Hid ((wr.drewN nq).cell? ⟨g4, k + 1, none⟩ = some (.int .i64 yy)) := d1
            have HD0 : Hid ((wr.drewN nq).cell? ⟨g4, k, none⟩ = some (.int .i64 y2)) := d0
            have HF : Hid (∀ i, (wr.drewN nq).frozen? ⟨g4, i, none⟩ = false) := hfz
            have HR2 : Hid ((wr.drewN nq).ownsRow w.heap.size 3 1 (.slice (some ⟨g4, 0, none⟩) (j + 1) c4) (j + 1) ((insAt s yy (k + 1)).map encZ)) := ownsRow_below HR.out (below_drewN (Below.refl _ _) _)
            have HB2 : Hid (RowKit.Below w.heap.size w (wr.drewN nq)) := below_drewN HBW.out _
            generalize wr.drewN nq = W at *
            clear d0 d1 hfz HR HBW
            have HSWA : Hid ((((insAt s yy (k + 1)).map encZ).set (k + 1) (.int .i64 y2)).set k (.int .i64 yy) = (insAt s yy k).map encZ) := by
              rw [Hid, ← insAt_swap s yy y2 k HY2.out, List.map_set, List.map_set]
            have HSWB : Hid ((((insAt s yy (k + 1)).map encZ).set k (.int .i64 yy)).set (k + 1) (.int .i64 y2) = (insAt s yy k).map encZ) := by
              rw [Hid, List.set_comm _ _ (by omega)]
              exact HSWA.out
            have HAD2 : Hid (∀ y ∈ s.drop k, yy < y) := fun y hy => by
              have hk : k < s.length := by omega
              rw [List.drop_eq_getElem_cons hk] at hy
              rcases List.mem_cons.1 hy with rfl | hy
              · have := HY2.out
                rw [List.getElem?_eq_getElem hk] at this
                rw [Option.some.inj this]
                exact hlt
              · exact HAD.out y hy
            have hO : W.drew.ownsRow w.heap.size 3 1 (.slice (some ⟨g4, 0, none⟩) (j + 1) c4) (j + 1) ((insAt s yy (k + 1)).map encZ) := ownsRow_below HR2.out (Below.refl _ _).drew
            have hBb : RowKit.Below w.heap.size w W.drew := HB2.out.drew
            have hwr : IntKind.i64.wrap (k : Int) = (k : Int) := by rw [IntKind.wrap_i64]; omega
            have HD0 : Hid (W.drew.cell? ⟨g4, k, none⟩ = some (.int .i64 y2)) := HD0.out
            have HD1 : Hid (W.drew.cell? ⟨g4, k + 1, none⟩ = some (.int .i64 yy)) := HD1.out
            clear HR2 HB2 HF
            have hHeld := trivial
            refine wp_region_held_drew (S := fun _ => True) (by kernel_rfl) hHeld (fun _ => ?_)
            generalize W.drew = U0 at *
            refine wpAnyH_take (i := 0) (v := ?_) rfl (by kernel_rfl) (by kernel_rfl) (by kernel_rfl) (fun _ _ _ h => h) (Or.inl ⟨by kernel_rfl, ?hy0⟩) (by assumption) ?_
            case hy0 => (intro w hSw; (try dsimp only at hSw); go_simp; try with_reducible rfl)
            try simp only [Act.put, List.getElem_toArray, List.getElem_cons_zero, List.setIfInBounds_toArray, List.set_cons_zero, List.set_cons_succ]
            refine wpAnyH_take (i := 1) (v := ?_) rfl (by kernel_rfl) (by kernel_rfl) (by kernel_rfl) (fun _ _ _ h => h) (Or.inl ⟨by kernel_rfl, ?hy1⟩) (by assumption) ?_
            case hy1 => (intro w hSw; (try dsimp only at hSw); go_simp; try with_reducible rfl)
            try simp only [Act.put, List.getElem_toArray, List.getElem_cons_zero, List.getElem_cons_succ, List.setIfInBounds_toArray, List.set_cons_zero, List.set_cons_succ]
            refine wpAnyH_take (i := 2) (v := ?_) rfl (by kernel_rfl) (by kernel_rfl) (by kernel_rfl) (fun _ _ _ h => h) (Or.inl ⟨by kernel_rfl, ?hy2⟩) (by assumption) ?_
            case hy2 => (intro w hSw; (try dsimp only at hSw); go_simp; try with_reducible rfl)
            try simp only [Act.put, List.getElem_toArray, List.getElem_cons_zero, List.getElem_cons_succ, List.setIfInBounds_toArray, List.set_cons_zero, List.set_cons_succ]
            refine wpAnyH_take (i := 3) (v := ?_) rfl (by kernel_rfl) (by kernel_rfl) (by kernel_rfl) (fun _ _ _ h => h) (Or.inl ⟨by kernel_rfl, ?hy3⟩) (by assumption) ?_
            case hy3 => (intro w hSw; (try dsimp only at hSw); go_simp; try with_reducible rfl)
            try simp only [Act.put, List.getElem_toArray, List.getElem_cons_zero, List.getElem_cons_succ, List.setIfInBounds_toArray, List.set_cons_zero, List.set_cons_succ]
            refine wpAnyH_take (i := 4) (v := ?_) rfl (by kernel_rfl) (by kernel_rfl) (by kernel_rfl) (fun _ _ _ h => h) (Or.inl ⟨by kernel_rfl, ?hy4⟩) (by assumption) ?_
            case hy4 => (intro w hSw; (try dsimp only at hSw); go_simp; try with_reducible rfl)
            try simp only [Act.put, List.getElem_toArray, List.getElem_cons_zero, List.getElem_cons_succ, List.setIfInBounds_toArray, List.set_cons_zero, List.set_cons_succ]
            refine wpAnyH_take (i := 5) (v := ?_) rfl (by kernel_rfl) (by kernel_rfl) (by kernel_rfl) (fun _ _ _ h => h) (Or.inl ⟨by kernel_rfl, ?hy5⟩) (by assumption) ?_
            case hy5 => (intro w hSw; (try dsimp only at hSw); go_simp; try with_reducible rfl)
            try simp only [Act.put, List.getElem_toArray, List.getElem_cons_zero, List.getElem_cons_succ, List.setIfInBounds_toArray, List.set_cons_zero, List.set_cons_succ]
            refine wpAnyH_take (i := 6) (v := ?_) rfl (by kernel_rfl) (by kernel_rfl) (by kernel_rfl) (fun _ _ _ h => h) (Or.inl ⟨by kernel_rfl, ?hy6⟩) (by assumption) ?_
            case hy6 => (intro w hSw; (try dsimp only at hSw); go_simp; try with_reducible rfl)
            try simp only [Act.put, List.getElem_toArray, List.getElem_cons_zero, List.getElem_cons_succ, List.setIfInBounds_toArray, List.set_cons_zero, List.set_cons_succ]
            refine wpAnyH_take (i := 7) (v := ?_) rfl (by kernel_rfl) (by kernel_rfl) (by kernel_rfl) (fun _ _ _ h => h) (Or.inl ⟨by kernel_rfl, ?hy7⟩) (by assumption) ?_
            case hy7 => (intro w hSw; (try dsimp only at hSw); go_simp; try with_reducible rfl)
            try simp only [Act.put, List.getElem_toArray, List.getElem_cons_zero, List.getElem_cons_succ, List.setIfInBounds_toArray, List.set_cons_zero, List.set_cons_succ]
            refine wpAnyH_take (i := 8) (v := ?_) rfl (by kernel_rfl) (by kernel_rfl) (by kernel_rfl) (fun _ _ _ h => h) (Or.inl ⟨by kernel_rfl, ?hy8⟩) (by assumption) ?_
            case hy8 => (intro w hSw; (try dsimp only at hSw); go_simp; try with_reducible rfl)
            try simp only [Act.put, List.getElem_toArray, List.getElem_cons_zero, List.getElem_cons_succ, List.setIfInBounds_toArray, List.set_cons_zero, List.set_cons_succ]
            refine wpAnyH_take (i := 10) (v := ?_) rfl (by kernel_rfl) (by kernel_rfl) (by kernel_rfl) (fun _ _ _ h => h) (Or.inl ⟨by kernel_rfl, ?hy10⟩) (by assumption) ?_
            case hy10 => (intro w hSw; (try dsimp only at hSw); go_simp; try with_reducible rfl)
            try simp only [Act.put, List.getElem_toArray, List.getElem_cons_zero, List.getElem_cons_succ, List.setIfInBounds_toArray, List.set_cons_zero, List.set_cons_succ]
            refine wpAnyH_take (i := 11) (v := ?_) rfl (by kernel_rfl) (by kernel_rfl) (by kernel_rfl) (fun _ _ _ h => h) (Or.inl ⟨by kernel_rfl, ?hy11⟩) (by assumption) ?_
            case hy11 => (intro w hSw; (try dsimp only at hSw); go_simp; try with_reducible rfl)
            try simp only [Act.put, List.getElem_toArray, List.getElem_cons_zero, List.getElem_cons_succ, List.setIfInBounds_toArray, List.set_cons_zero, List.set_cons_succ]
            refine wpAnyH_take (i := 12) (v := ?_) rfl (by kernel_rfl) (by kernel_rfl) (by kernel_rfl) (fun _ _ _ h => h) (Or.inl ⟨by kernel_rfl, ?hy12⟩) (by assumption) ?_
            case hy12 => (intro w hSw; (try dsimp only at hSw); go_simp; try with_reducible rfl)
            try simp only [Act.put, List.getElem_toArray, List.getElem_cons_zero, List.getElem_cons_succ, List.setIfInBounds_toArray, List.set_cons_zero, List.set_cons_succ]
            refine wpAnyH_ready (rs := [9, 13]) (by kernel_rfl) (by simp) ?_
            refine AllReadyH.cons rfl (fun K hK => ?_) ?_
            · have ca := HD0.out
              go_simp
              refine hK.out _ _ trivial (fun _ => ?_)
              clear hK K ca
              try simp only [Act.put, List.getElem_toArray, List.getElem_cons_zero, List.getElem_cons_succ, List.setIfInBounds_toArray, List.set_cons_zero, List.set_cons_succ]
              refine wpAnyH_ready (rs := [13]) (by kernel_rfl) (by simp) ?_
              refine AllReadyH.cons rfl (fun K hK => ?_) AllReadyH.nil
              have ca := HD1.out
              go_simp
              refine hK.out _ _ trivial (fun _ => ?_)
              clear hK K ca
              try simp only [Act.put, List.getElem_toArray, List.getElem_cons_zero, List.getElem_cons_succ, List.setIfInBounds_toArray, List.set_cons_zero, List.set_cons_succ]
              refine wpAnyH_take (i := 14) (v := ?_) rfl (by kernel_rfl) (by kernel_rfl) (by kernel_rfl) (fun _ _ _ h => h) (Or.inl ⟨by kernel_rfl, ?hy14⟩) (by assumption) ?_
              case hy14 => (intro w hSw; (try dsimp only at hSw); go_simp; try with_reducible rfl)
              try simp only [Act.put, List.getElem_toArray, List.getElem_cons_zero, List.getElem_cons_succ, List.setIfInBounds_toArray, List.set_cons_zero, List.set_cons_succ]
              refine wpAnyH_ready (rs := [15]) (by kernel_rfl) (by simp) ?_
              refine AllReadyH.cons rfl (fun K hK => ?_) AllReadyH.nil
              obtain ⟨v0, cb⟩ := own_some hO (k + 1) (by omega)
              have fb := hO.frozenAt (k + 1)
              go_simp
              replace hO := (hO.stored (k + 1) (.int .i64 y2)).1
              replace hBb := hBb.setCell (p := ⟨g4, k + 1, none⟩) hg4 (.int .i64 y2)
              refine hK.out _ _ trivial (fun _ => ?_)
              clear hK K cb fb
              try simp only [Act.put, List.getElem_toArray, List.getElem_cons_zero, List.getElem_cons_succ, List.setIfInBounds_toArray, List.set_cons_zero, List.set_cons_succ]
              refine wpAnyH_take (i := 16) (v := ?_) rfl (by kernel_rfl) (by kernel_rfl) (by kernel_rfl) (fun _ _ _ h => h) (Or.inl ⟨by kernel_rfl, ?hy16⟩) (by assumption) ?_
              case hy16 => (intro w hSw; (try dsimp only at hSw); go_simp; try with_reducible rfl)
              try simp only [Act.put, List.getElem_toArray, List.getElem_cons_zero, List.getElem_cons_succ, List.setIfInBounds_toArray, List.set_cons_zero, List.set_cons_succ]
              refine wpAnyH_ready (rs := [17]) (by kernel_rfl) (by simp) ?_
              refine AllReadyH.cons rfl (fun K hK => ?_) AllReadyH.nil
              obtain ⟨v1, cb⟩ := own_some hO k (by omega)
              have fb := hO.frozenAt k
              go_simp
              replace hO := (hO.stored k (.int .i64 yy)).1
              replace hBb := hBb.setCell (p := ⟨g4, k, none⟩) hg4 (.int .i64 yy)
              refine hK.out _ _ trivial (fun _ => ?_)
              clear hK K cb fb
              try simp only [Act.put, List.getElem_toArray, List.getElem_cons_zero, List.getElem_cons_succ, List.setIfInBounds_toArray, List.set_cons_zero, List.set_cons_succ]
              refine wpAnyH_done (by kernel_rfl) ?_ _
              have HO9 := hid hO
              have HB9 := hid hBb
              clear hO hBb
              go_wp2
              first | rw [HSWA.out] at HO9 | rw [HSWB.out] at HO9
              exact ⟨⟨k, by go_num, by omega, HO9.out, HB9.out, HAD2.out⟩, by simp [numOf]⟩
            refine AllReadyH.cons rfl (fun K hK => ?_) ?_
            · have ca := HD1.out
              go_simp
              refine hK.out _ _ trivial (fun _ => ?_)
              clear hK K ca
              try simp only [Act.put, List.getElem_toArray, List.getElem_cons_zero, List.getElem_cons_succ, List.setIfInBounds_toArray, List.set_cons_zero, List.set_cons_succ]
              refine wpAnyH_ready (rs := [9]) (by kernel_rfl) (by simp) ?_
              refine AllReadyH.cons rfl (fun K hK => ?_) AllReadyH.nil
              have ca := HD0.out
              go_simp
              refine hK.out _ _ trivial (fun _ => ?_)
              clear hK K ca
              try simp only [Act.put, List.getElem_toArray, List.getElem_cons_zero, List.getElem_cons_succ, List.setIfInBounds_toArray, List.set_cons_zero, List.set_cons_succ]
              refine wpAnyH_take (i := 14) (v := ?_) rfl (by kernel_rfl) (by kernel_rfl) (by kernel_rfl) (fun _ _ _ h => h) (Or.inl ⟨by kernel_rfl, ?hy14⟩) (by assumption) ?_
              case hy14 => (intro w hSw; (try dsimp only at hSw); go_simp; try with_reducible rfl)
              try simp only [Act.put, List.getElem_toArray, List.getElem_cons_zero, List.getElem_cons_succ, List.setIfInBounds_toArray, List.set_cons_zero, List.set_cons_succ]
              refine wpAnyH_ready (rs := [15]) (by kernel_rfl) (by simp) ?_
              refine AllReadyH.cons rfl (fun K hK => ?_) AllReadyH.nil
              obtain ⟨v0, cb⟩ := own_some hO (k + 1) (by omega)
              have fb := hO.frozenAt (k + 1)
              go_simp
              replace hO := (hO.stored (k + 1) (.int .i64 y2)).1
              replace hBb := hBb.setCell (p := ⟨g4, k + 1, none⟩) hg4 (.int .i64 y2)
              refine hK.out _ _ trivial (fun _ => ?_)
              clear hK K cb fb
              try simp only [Act.put, List.getElem_toArray, List.getElem_cons_zero, List.getElem_cons_succ, List.setIfInBounds_toArray, List.set_cons_zero, List.set_cons_succ]
              refine wpAnyH_take (i := 16) (v := ?_) rfl (by kernel_rfl) (by kernel_rfl) (by kernel_rfl) (fun _ _ _ h => h) (Or.inl ⟨by kernel_rfl, ?hy16⟩) (by assumption) ?_
              case hy16 => (intro w hSw; (try dsimp only at hSw); go_simp; try with_reducible rfl)
              try simp only [Act.put, List.getElem_toArray, List.getElem_cons_zero, List.getElem_cons_succ, List.setIfInBounds_toArray, List.set_cons_zero, List.set_cons_succ]
              refine wpAnyH_ready (rs := [17]) (by kernel_rfl) (by simp) ?_
              refine AllReadyH.cons rfl (fun K hK => ?_) AllReadyH.nil
              obtain ⟨v1, cb⟩ := own_some hO k (by omega)
              have fb := hO.frozenAt k
              go_simp
              replace hO := (hO.stored k (.int .i64 yy)).1
              replace hBb := hBb.setCell (p := ⟨g4, k, none⟩) hg4 (.int .i64 yy)
              refine hK.out _ _ trivial (fun _ => ?_)
              clear hK K cb fb
              try simp only [Act.put, List.getElem_toArray, List.getElem_cons_zero, List.getElem_cons_succ, List.setIfInBounds_toArray, List.set_cons_zero, List.set_cons_succ]
              refine wpAnyH_done (by kernel_rfl) ?_ _
              have HO9 := hid hO
              have HB9 := hid hBb
              clear hO hBb
              go_wp2
              first | rw [HSWA.out] at HO9 | rw [HSWB.out] at HO9
              exact ⟨⟨k, by go_num, by omega, HO9.out, HB9.out, HAD2.out⟩, by simp [numOf]⟩
            exact AllReadyH.nil
          · have e3 : decide (yy < y2) = false := decide_eq_false hlt
            have HQ : Hid (insAt s yy (k + 1) = srt (B.take (j + 1))) := by
              rw [Hid, HS.out, HYY.out]
              exact srt_snoc HY.out (by rw [← HS.out, ← HYY.out]; exact HAD.out) (.inr ⟨y2, by rw [← HS.out]; exact HY2.out, by rw [← HYY.out]; omega⟩) (by rw [← HS.out]; omega)
            go_wp2
            go_quiet (fail)
            go_wp2
            rw [HQ.out] at HR
            exact ⟨⟨j + 1, by go_num, by omega, ownsRow_below HR.out (below_drewN (Below.refl _ _) _), below_drewN HBW.out _⟩, by simp [numOf]; omega⟩
    · obtain rfl : j = N := by omega
      have e1 : decide ((j : Int) < j) = false := decide_eq_false (by omega)
      rw [HEND.out] at hr
      have HR := hid hr
      have HB := hid hbw
      clear hr hbw
      go_wp2
      go_ret
      have hl : (srt B).length = j := by rw [srt_length]; exact HNN.out.symm
      rw [hl]
      exact ⟨_, rfl, HR.out, HB.out⟩
end Go.Proofs.YtnfenfleahennaaDoor
