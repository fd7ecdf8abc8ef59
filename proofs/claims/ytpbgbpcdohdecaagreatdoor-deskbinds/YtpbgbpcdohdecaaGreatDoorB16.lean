/- Lemmas that the proof leans on. -/
import Derived.Test.YtpbgbpcdohdecaaGreatDoorB15
namespace Go.Proofs.YtpbgbpcdohdecaaGreatDoor
open Go Go.RowKit
set_option maxRecDepth 100000
set_option maxHeartbeats 2000000
section
structure Fn2 (g : Nat) (f : Bool → Bool → Bool) : Prop where
 ent : ∀ args w, (callFunc g args).run Tryz.prog w = .ok (.enter g args) w
 run : ∀ p q u, Calls Tryz.prog g #[.bool p, .bool q] u fun e u' => e = .returned (.bool (f p q)) ∧ u' = u
theorem RdJ.cut {w : World} {a : Option Addr} {n c : Nat} {l : List Int} (h : RdJ w a n c l) {k : Nat} (hk : k ≤ n) : RdJ w (Option.map (fun x => x.add k) a) (n - k) (c - k) (l.drop k) := by
 have hl := h.len
 have hle := h.le
 have hm := h.max
 refine ⟨by rw [List.length_drop]; omega, by omega, by omega, (fun e => by
  cases a with
  | none => have := h.hnil rfl; omega
  | some x => cases e), fun hk0 => ?_⟩
 obtain ⟨b, off, rfl, h1, h2⟩ := h.pl (by omega)
 refine ⟨b, off + k, by simp [Addr.add], h1, fun j r hr => ?_⟩
 rw [List.getElem?_drop] at hr
 have := h2 _ _ hr
 rwa [Nat.add_assoc]
theorem RdJ.cut0 {w : World} {a : Option Addr} {n k : Nat} {l : List Int} (h : RdJ w a n k l) : RdJ w a 0 0 (l.drop k) := by
 have hl := h.len
 have hle := h.le
 rw [List.drop_eq_nil_of_le (by omega)]
 exact RdJ.none_of _ _ (Nat.zero_le _) (fun _ => rfl)
structure Mx (f : Bool → Bool → Bool) (A B : List Int) (i j : Nat) (E : List Int) : Prop where
 le : E.length ≤ i + j
 eq : E ++ mix f (od i) (od j) (od E.length) (A.drop i) (B.drop j) = mix f false false false A B
theorem lst_comm (a b : List Int) : lst a b = lst b a := by
 cases a <;> cases b <;> simp [lst]
 omega
theorem tk1_some {a b : List Int} (h : a ≠ [] ∨ b ≠ []) : tk1 a b = true ∨ tk1 b a = true := by
 cases a <;> cases b <;> simp [tk1, lst] at h ⊢
 omega
def up (i : Nat) (p : Bool) : Nat := if p = true then i + 1 else i
theorem od_up (i : Nat) (p : Bool) : od (up i p) = bx (od i) p := by
 cases p
 ·rfl
 ·exact od_succ i
theorem drop_up (l : List Int) (i : Nat) (p : Bool) : l.drop (up i p) = dn p (l.drop i) := by
 cases p
 ·rfl
 ·simp [up, dn]
theorem Mx.step {f : Bool → Bool → Bool} {A B : List Int} {i j : Nat} {E : List Int} (h : Mx f A B i j E) (hn : A.drop i ≠ [] ∨ B.drop j ≠ []) (i' j' : Nat) (hi : i' = up i (tk1 (A.drop i) (B.drop j))) (hj : j' = up j (tk1 (B.drop j) (A.drop i))) (hlt : i + j + 1 ≤ i' + j') :
  (f (od i') (od j') = od E.length → Mx f A B i' j' E) ∧ (f (od i') (od j') ≠ od E.length → Mx f A B i' j' (E ++ [lst (A.drop i) (B.drop j)])) := by
 have h1 := h.le
 have h2 := h.eq
 rw [mix_step _ _ _ _ _ _ hn, ← od_up, ← od_up, ← drop_up, ← drop_up, ← hi, ← hj] at h2
 constructor
 ·intro e
  rw [if_pos e] at h2
  exact ⟨by omega, h2⟩
 ·intro e
  rw [if_neg e] at h2
  refine ⟨by rw [List.length_append]; simp; omega, ?_⟩
  rw [List.length_append, List.length_singleton, od_succ, List.append_assoc]
  exact h2
theorem mix_any (a a' : Option Addr) (n c n' c' : Nat) (A B : List Int) (g : Nat) (f : Bool → Bool → Bool) (w : World) (h : RdJ w a n c A) (h' : RdJ w a' n' c' B) (hg : Fn2 g f) (hn : n ≤ 1000000) (hn' : n' ≤ 1000000) :
  Calls Tryz.prog 264 #[.slice a n c, .slice a' n' c', .func (.func g) #[] #[]] w fun e w' => ∃ v, e = .returned v ∧ OwJ w w' v (mix f false false false A B) := by
 have H := hid h
 have H' := hid h'
 have HL := hid h.len
 have HL' := hid h'.len
 have hs := h.small
 have hs' := h'.small
 have hle := h.le
 have hle' := h'.le
 have eg := hg.ent
 have HG := hid hg
 obtain ⟨i0, hi, hz0, hz1, hz2⟩ := info3 infoI_RgnH
 clear h h' hg
 go_enter Tryz.func264, Tryz.ntmps264
 go_wp2
 go_loopw [7, 8, 9] (fun v x y wr => ∃ (i j : Nat) (E : List Int), x = .int .i64 i ∧ y = .int .i64 j ∧ i ≤ n ∧ j ≤ n' ∧ Mx f A B i j E ∧ OwJ w wr v E) (fun _ x y _ => (n - (numOf x).toNat) + (n' - (numOf y).toNat))
 case atStart => exact ⟨0, 0, [], rfl, rfl, by omega, by omega, ⟨by simp, by simp [od]⟩, World.ownsRow_nil _ _ _ _, Below.refl _ _⟩
 case round =>
  obtain ⟨i, j, E, rfl, rfl, hin, hjn, hM, hO⟩ := hrel
  have HM := hid hM
  have HO := hid hO
  clear hM hO
  by_cases hgo : i < n ∨ j < n'
  ·have HN : Hid (A.drop i ≠ [] ∨ B.drop j ≠ []) := by
    rcases hgo with h | h
    ·exact .inl (fun e => by have := congrArg List.length e; rw [List.length_drop, HL.out] at this; simp at this; omega)
    ·exact .inr (fun e => by have := congrArg List.length e; rw [List.length_drop, HL'.out] at this; simp at this; omega)
   obtain ⟨X, hX⟩ : ∃ X, X = lst (A.drop i) (B.drop j) := ⟨_, rfl⟩
   have HX := hid hX
   clear hX
   have CL : Hid (∀ (ad ad' : Option Addr) (m k m' k' : Nat) (u : World), RdJ u ad m k (A.drop i) → RdJ u ad' m' k' (B.drop j) → Calls Tryz.prog 295 #[.slice ad m k, .slice ad' m' k'] u fun e w' => e = .returned (.int .i64 X) ∧ ∃ q, w' = u.drewN q) := fun ad ad' m k m' k' u h1 h2 => by
    rw [HX.out]
    have l1 := h1.len
    have l2 := h2.len
    rw [List.length_drop, HL.out] at l1
    rw [List.length_drop, HL'.out] at l2
    exact least_any ad ad' m k m' k' _ _ u h1 h2 (by omega)
   go_upto_region 3 with fail
   go_cut [20] from 11 to 69 (fun v wx => v = .bool true ∧ wx = wr)
   case first =>
    cases e1 : decide (i < n)
    ·have e2 : decide (j < n') = true := by rcases hgo with h | h; simp [h] at e1; simpa using h
     go_wp2_with fail
     go_meet
     exact ⟨rfl, rfl⟩
    ·go_wp2_with fail
     go_meet
     exact ⟨rfl, rfl⟩
   case rest =>
    obtain ⟨rfl, rfl⟩ := hcut
    go_upto_region 4 with fail
    go_cut [10] from 11 to 69 (fun v wx => v = .int .i64 X ∧ RowKit.Below wc.heap.size wc wx)
    case first =>
     by_cases hci : c = i
     ·subst hci
      have hcj : ¬ c' = j := by omega
      refine wp_region_held_drew (S := fun x => Below wc.heap.size wc x) (by kernel_rfl) (Below.refl _ _).drew (fun hHeld => ?_)
      have hHeld : Below wc.heap.size wc wc.drew := hHeld
      refine wpAnyH_take (i := 0) (v := ?_) rfl (by kernel_rfl) (by kernel_rfl) (by kernel_rfl) (fun _ _ _ h => h) (Or.inl ⟨by kernel_rfl, ?hy0⟩) (by assumption) ?_
      case hy0 => (intro w hSw; (try dsimp only at hSw); go_simp; try with_reducible rfl)
      try simp only [Act.put, List.getElem_toArray, List.getElem_cons_zero, List.setIfInBounds_toArray, List.set_cons_zero, List.set_cons_succ]
      refine wpAnyH_take (i := 1) (v := ?_) rfl (by kernel_rfl) (by kernel_rfl) (by kernel_rfl) (fun _ _ _ h => h) (Or.inl ⟨by kernel_rfl, ?hy1⟩) (by assumption) ?_
      case hy1 => (intro w hSw; (try dsimp only at hSw); go_simp; try with_reducible rfl)
      try simp only [Act.put, List.getElem_toArray, List.getElem_cons_zero, List.getElem_cons_succ, List.setIfInBounds_toArray, List.set_cons_zero, List.set_cons_succ]
      refine wpAnyH_take (i := 2) (v := ?_) rfl (by kernel_rfl) (by kernel_rfl) (by kernel_rfl) (fun _ _ _ h => h) (Or.inl ⟨by kernel_rfl, ?hy2⟩) (by assumption) ?_
      case hy2 => (intro w hSw; (try dsimp only at hSw); go_simp; try with_reducible rfl)
      try simp only [Act.put, List.getElem_toArray, List.getElem_cons_zero, List.getElem_cons_succ, List.setIfInBounds_toArray, List.set_cons_zero, List.set_cons_succ]
      refine wpAnyH_take (i := 3) (v := ?_) rfl (by kernel_rfl) (by kernel_rfl) (by kernel_rfl) (fun _ _ _ h => h) (Or.inl ⟨by kernel_rfl, ?hy3⟩) (by assumption) ?_
      case hy3 => (intro w hSw; (try dsimp only at hSw); go_simp; try with_reducible rfl)
      try simp only [Act.put, List.getElem_toArray, List.getElem_cons_zero, List.getElem_cons_succ, List.setIfInBounds_toArray, List.set_cons_zero, List.set_cons_succ]
      refine wpAnyH_take (i := 4) (v := ?_) rfl (by kernel_rfl) (by kernel_rfl) (by kernel_rfl) (fun _ _ _ h => h) (Or.inl ⟨by kernel_rfl, ?hy4⟩) (by assumption) ?_
      case hy4 => (intro w hSw; (try dsimp only at hSw); go_simp; try with_reducible rfl)
      try simp only [Act.put, List.getElem_toArray, List.getElem_cons_zero, List.getElem_cons_succ, List.setIfInBounds_toArray, List.set_cons_zero, List.set_cons_succ]
      refine wpAnyH_take (i := 5) (v := ?_) rfl (by kernel_rfl) (by kernel_rfl) (by kernel_rfl) (fun _ _ _ h => h) (Or.inl ⟨by kernel_rfl, ?hy5⟩) (by assumption) ?_
      case hy5 => (intro w hSw; (try dsimp only at hSw); go_simp; try with_reducible rfl)
      try simp only [Act.put, List.getElem_toArray, List.getElem_cons_zero, List.getElem_cons_succ, List.setIfInBounds_toArray, List.set_cons_zero, List.set_cons_succ]
      refine wpAnyH_ready (rs := [6]) (by kernel_rfl) (by simp) ?_
      refine AllReadyH.cons rfl (fun K hK => ?_) AllReadyH.nil
      go_simp
      go_wp2_with fail
      refine (CL.out a (Option.map (fun x => x.add j) a') 0 0 (n' - j) (c' - j) _ (H.out.on (Below.on HO.out.bel hHeld)).cut0 ((H'.out.on (Below.on HO.out.bel hHeld)).cut hjn)).mono ?_
      rintro e u27 ⟨rfl, q27, rfl⟩
      replace hHeld := below_drewN_LibK hHeld q27
      refine hK.out _ _ hHeld (fun _ => ?_)
      clear hK K
      refine wpAnyH_take (i := 7) (v := ?_) rfl (by kernel_rfl) (by kernel_rfl) (by kernel_rfl) (fun _ _ _ h => h) (Or.inl ⟨by kernel_rfl, ?hy7⟩) (by assumption) ?_
      case hy7 => (intro w hSw; (try dsimp only at hSw); go_simp; try with_reducible rfl)
      try simp only [Act.put, List.getElem_toArray, List.getElem_cons_zero, List.getElem_cons_succ, List.setIfInBounds_toArray, List.set_cons_zero, List.set_cons_succ]
      refine wpAnyH_done (by kernel_rfl) ?_ _
      go_wp2_with fail
      go_meet
      exact ⟨rfl, hHeld⟩
     ·by_cases hcj : c' = j
      ·subst hcj
       refine wp_region_held_drew (S := fun x => Below wc.heap.size wc x) (by kernel_rfl) (Below.refl _ _).drew (fun hHeld => ?_)
       have hHeld : Below wc.heap.size wc wc.drew := hHeld
       refine wpAnyH_take (i := 0) (v := ?_) rfl (by kernel_rfl) (by kernel_rfl) (by kernel_rfl) (fun _ _ _ h => h) (Or.inl ⟨by kernel_rfl, ?hy0⟩) (by assumption) ?_
       case hy0 => (intro w hSw; (try dsimp only at hSw); go_simp; try with_reducible rfl)
       try simp only [Act.put, List.getElem_toArray, List.getElem_cons_zero, List.setIfInBounds_toArray, List.set_cons_zero, List.set_cons_succ]
       refine wpAnyH_take (i := 1) (v := ?_) rfl (by kernel_rfl) (by kernel_rfl) (by kernel_rfl) (fun _ _ _ h => h) (Or.inl ⟨by kernel_rfl, ?hy1⟩) (by assumption) ?_
       case hy1 => (intro w hSw; (try dsimp only at hSw); go_simp; try with_reducible rfl)
       try simp only [Act.put, List.getElem_toArray, List.getElem_cons_zero, List.getElem_cons_succ, List.setIfInBounds_toArray, List.set_cons_zero, List.set_cons_succ]
       refine wpAnyH_take (i := 2) (v := ?_) rfl (by kernel_rfl) (by kernel_rfl) (by kernel_rfl) (fun _ _ _ h => h) (Or.inl ⟨by kernel_rfl, ?hy2⟩) (by assumption) ?_
       case hy2 => (intro w hSw; (try dsimp only at hSw); go_simp; try with_reducible rfl)
       try simp only [Act.put, List.getElem_toArray, List.getElem_cons_zero, List.getElem_cons_succ, List.setIfInBounds_toArray, List.set_cons_zero, List.set_cons_succ]
       refine wpAnyH_take (i := 3) (v := ?_) rfl (by kernel_rfl) (by kernel_rfl) (by kernel_rfl) (fun _ _ _ h => h) (Or.inl ⟨by kernel_rfl, ?hy3⟩) (by assumption) ?_
       case hy3 => (intro w hSw; (try dsimp only at hSw); go_simp; try with_reducible rfl)
       try simp only [Act.put, List.getElem_toArray, List.getElem_cons_zero, List.getElem_cons_succ, List.setIfInBounds_toArray, List.set_cons_zero, List.set_cons_succ]
       refine wpAnyH_take (i := 4) (v := ?_) rfl (by kernel_rfl) (by kernel_rfl) (by kernel_rfl) (fun _ _ _ h => h) (Or.inl ⟨by kernel_rfl, ?hy4⟩) (by assumption) ?_
       case hy4 => (intro w hSw; (try dsimp only at hSw); go_simp; try with_reducible rfl)
       try simp only [Act.put, List.getElem_toArray, List.getElem_cons_zero, List.getElem_cons_succ, List.setIfInBounds_toArray, List.set_cons_zero, List.set_cons_succ]
       refine wpAnyH_take (i := 5) (v := ?_) rfl (by kernel_rfl) (by kernel_rfl) (by kernel_rfl) (fun _ _ _ h => h) (Or.inl ⟨by kernel_rfl, ?hy5⟩) (by assumption) ?_
       case hy5 => (intro w hSw; (try dsimp only at hSw); go_simp; try with_reducible rfl)
       try simp only [Act.put, List.getElem_toArray, List.getElem_cons_zero, List.getElem_cons_succ, List.setIfInBounds_toArray, List.set_cons_zero, List.set_cons_succ]
       refine wpAnyH_ready (rs := [6]) (by kernel_rfl) (by simp) ?_
       refine AllReadyH.cons rfl (fun K hK => ?_) AllReadyH.nil
       go_simp
       go_wp2_with fail
       refine (CL.out (Option.map (fun x => x.add i) a) a' (n - i) (c - i) 0 0 _ ((H.out.on (Below.on HO.out.bel hHeld)).cut hin) (H'.out.on (Below.on HO.out.bel hHeld)).cut0).mono ?_
       rintro e u27 ⟨rfl, q27, rfl⟩
       replace hHeld := below_drewN_LibK hHeld q27
       refine hK.out _ _ hHeld (fun _ => ?_)
       clear hK K
       refine wpAnyH_take (i := 7) (v := ?_) rfl (by kernel_rfl) (by kernel_rfl) (by kernel_rfl) (fun _ _ _ h => h) (Or.inl ⟨by kernel_rfl, ?hy7⟩) (by assumption) ?_
       case hy7 => (intro w hSw; (try dsimp only at hSw); go_simp; try with_reducible rfl)
       try simp only [Act.put, List.getElem_toArray, List.getElem_cons_zero, List.getElem_cons_succ, List.setIfInBounds_toArray, List.set_cons_zero, List.set_cons_succ]
       refine wpAnyH_done (by kernel_rfl) ?_ _
       go_wp2_with fail
       go_meet
       exact ⟨rfl, hHeld⟩
      ·-- x
       refine wp_region_held_drew (S := fun x => Below wc.heap.size wc x) (by kernel_rfl) (Below.refl _ _).drew (fun hHeld => ?_)
       have hHeld : Below wc.heap.size wc wc.drew := hHeld
       refine wpAnyH_take (i := 0) (v := ?_) rfl (by kernel_rfl) (by kernel_rfl) (by kernel_rfl) (fun _ _ _ h => h) (Or.inl ⟨by kernel_rfl, ?hy0⟩) (by assumption) ?_
       case hy0 => (intro w hSw; (try dsimp only at hSw); go_simp; try with_reducible rfl)
       try simp only [Act.put, List.getElem_toArray, List.getElem_cons_zero, List.setIfInBounds_toArray, List.set_cons_zero, List.set_cons_succ]
       refine wpAnyH_take (i := 1) (v := ?_) rfl (by kernel_rfl) (by kernel_rfl) (by kernel_rfl) (fun _ _ _ h => h) (Or.inl ⟨by kernel_rfl, ?hy1⟩) (by assumption) ?_
       case hy1 => (intro w hSw; (try dsimp only at hSw); go_simp; try with_reducible rfl)
       try simp only [Act.put, List.getElem_toArray, List.getElem_cons_zero, List.getElem_cons_succ, List.setIfInBounds_toArray, List.set_cons_zero, List.set_cons_succ]
       refine wpAnyH_take (i := 2) (v := ?_) rfl (by kernel_rfl) (by kernel_rfl) (by kernel_rfl) (fun _ _ _ h => h) (Or.inl ⟨by kernel_rfl, ?hy2⟩) (by assumption) ?_
       case hy2 => (intro w hSw; (try dsimp only at hSw); go_simp; try with_reducible rfl)
       try simp only [Act.put, List.getElem_toArray, List.getElem_cons_zero, List.getElem_cons_succ, List.setIfInBounds_toArray, List.set_cons_zero, List.set_cons_succ]
       refine wpAnyH_take (i := 3) (v := ?_) rfl (by kernel_rfl) (by kernel_rfl) (by kernel_rfl) (fun _ _ _ h => h) (Or.inl ⟨by kernel_rfl, ?hy3⟩) (by assumption) ?_
       case hy3 => (intro w hSw; (try dsimp only at hSw); go_simp; try with_reducible rfl)
       try simp only [Act.put, List.getElem_toArray, List.getElem_cons_zero, List.getElem_cons_succ, List.setIfInBounds_toArray, List.set_cons_zero, List.set_cons_succ]
       refine wpAnyH_take (i := 4) (v := ?_) rfl (by kernel_rfl) (by kernel_rfl) (by kernel_rfl) (fun _ _ _ h => h) (Or.inl ⟨by kernel_rfl, ?hy4⟩) (by assumption) ?_
       case hy4 => (intro w hSw; (try dsimp only at hSw); go_simp; try with_reducible rfl)
       try simp only [Act.put, List.getElem_toArray, List.getElem_cons_zero, List.getElem_cons_succ, List.setIfInBounds_toArray, List.set_cons_zero, List.set_cons_succ]
       refine wpAnyH_take (i := 5) (v := ?_) rfl (by kernel_rfl) (by kernel_rfl) (by kernel_rfl) (fun _ _ _ h => h) (Or.inl ⟨by kernel_rfl, ?hy5⟩) (by assumption) ?_
       case hy5 => (intro w hSw; (try dsimp only at hSw); go_simp; try with_reducible rfl)
       try simp only [Act.put, List.getElem_toArray, List.getElem_cons_zero, List.getElem_cons_succ, List.setIfInBounds_toArray, List.set_cons_zero, List.set_cons_succ]
       refine wpAnyH_ready (rs := [6]) (by kernel_rfl) (by simp) ?_
       refine AllReadyH.cons rfl (fun K hK => ?_) AllReadyH.nil
       go_simp
       go_wp2_with fail
       refine (CL.out (Option.map (fun x => x.add i) a) (Option.map (fun x => x.add j) a') (n - i) (c - i) (n' - j) (c' - j) _ ((H.out.on (Below.on HO.out.bel hHeld)).cut hin) ((H'.out.on (Below.on HO.out.bel hHeld)).cut hjn)).mono ?_
       rintro e u27 ⟨rfl, q27, rfl⟩
       replace hHeld := below_drewN_LibK hHeld q27
       refine hK.out _ _ hHeld (fun _ => ?_)
       clear hK K
       refine wpAnyH_take (i := 7) (v := ?_) rfl (by kernel_rfl) (by kernel_rfl) (by kernel_rfl) (fun _ _ _ h => h) (Or.inl ⟨by kernel_rfl, ?hy7⟩) (by assumption) ?_
       case hy7 => (intro w hSw; (try dsimp only at hSw); go_simp; try with_reducible rfl)
       try simp only [Act.put, List.getElem_toArray, List.getElem_cons_zero, List.getElem_cons_succ, List.setIfInBounds_toArray, List.set_cons_zero, List.set_cons_succ]
       refine wpAnyH_done (by kernel_rfl) ?_ _
       go_wp2_with fail
       go_meet
       exact ⟨rfl, hHeld⟩
    case rest =>
     obtain ⟨rfl, hb2⟩ := hcut
     have HO2 := hid (HO.out.on hb2)
     clear HO hb2 CL
     obtain ⟨p1, hp1⟩ : ∃ p1, p1 = tk1 (A.drop i) (B.drop j) := ⟨_, rfl⟩
     obtain ⟨p2, hp2⟩ : ∃ p2, p2 = tk1 (B.drop j) (A.drop i) := ⟨_, rfl⟩
     have HP1 := hid hp1
     have HP2 := hid hp2
     clear hp1 hp2
     go_upto_region 5 with fail
     go_cut [39] from 11 to 69 (fun v wx => v = .bool p1 ∧ wx = wc)
     case first =>
      by_cases h1 : i < n
      ·have e1 : decide (i < n) = true := decide_eq_true h1
       have e2 : (i : Int) < n := by omega
       obtain ⟨b, off, x, rfl, _, hx, c0⟩ := (H.out.on HO2.out.bel).el h1
       have HT : Hid ((x == X) = p1) := by rw [Hid, HP1.out, HX.out, drop_at hx]; rfl
       have hT := HT.out
       clear hx HT
       go_wp2_with fail
       go_meet
       exact ⟨rfl, rfl⟩
      ·have e1 : decide (i < n) = false := decide_eq_false h1
       have HT : Hid (p1 = false) := by rw [Hid, HP1.out, List.drop_eq_nil_of_le (by rw [HL.out]; omega)]; rfl
       go_wp2_with fail
       go_meet
       exact ⟨by rw [HT.out], rfl⟩
     case rest =>
     obtain ⟨rfl, rfl⟩ := hcut
     go_upto_if 39 with fail
     go_cut [8] from 11 to 69 (fun v wx => v = .int .i64 (up i p1) ∧ wx = wc)
     case first =>
      cases p1
      ·go_wp2_with fail
       go_meet
       exact ⟨rfl, rfl⟩
      ·go_wp2_with fail
       go_meet
       exact ⟨by simp [up], rfl⟩
     case rest =>
     obtain ⟨rfl, rfl⟩ := hcut
     go_upto_region 7 with fail
     go_cut [53] from 11 to 69 (fun v wx => v = .bool p2 ∧ wx = wc)
     case first =>
      by_cases h1 : j < n'
      ·have e1 : decide (j < n') = true := decide_eq_true h1
       have e2 : (j : Int) < n' := by omega
       obtain ⟨b, off, x, rfl, _, hx, c0⟩ := (H'.out.on HO2.out.bel).el h1
       have HT : Hid ((x == X) = p2) := by rw [Hid, HP2.out, HX.out, lst_comm, drop_at hx]; rfl
       have hT := HT.out
       clear hx HT
       go_wp2_with fail
       go_meet
       exact ⟨rfl, rfl⟩
      ·have e1 : decide (j < n') = false := decide_eq_false h1
       have HT : Hid (p2 = false) := by rw [Hid, HP2.out, List.drop_eq_nil_of_le (by rw [HL'.out]; omega)]; rfl
       go_wp2_with fail
       go_meet
       exact ⟨by rw [HT.out], rfl⟩
     case rest =>
     obtain ⟨rfl, rfl⟩ := hcut
     go_upto_if 53 with fail
     go_cut [9] from 11 to 69 (fun v wx => v = .int .i64 (up j p2) ∧ wx = wc)
     case first =>
      cases p2
      ·go_wp2_with fail
       go_meet
       exact ⟨rfl, rfl⟩
      ·go_wp2_with fail
       go_meet
       exact ⟨by simp [up], rfl⟩
     case rest =>
     obtain ⟨rfl, rfl⟩ := hcut
     have HI : Hid (up i p1 ≤ n ∧ up j p2 ≤ n' ∧ i + j + 1 ≤ up i p1 + up j p2) := by
      have b1 : p1 = true → i < n := fun e => by
       rcases Nat.lt_or_ge i n with h | h
       ·exact h
       ·rw [HP1.out, List.drop_eq_nil_of_le (by rw [HL.out]; exact h)] at e; cases e
      have b2 : p2 = true → j < n' := fun e => by
       rcases Nat.lt_or_ge j n' with h | h
       ·exact h
       ·rw [HP2.out, List.drop_eq_nil_of_le (by rw [HL'.out]; exact h)] at e; cases e
      have b3 : p1 = true ∨ p2 = true := by rw [HP1.out, HP2.out]; exact tk1_some HN.out
      rw [Hid]
      unfold up
      cases p1 <;> cases p2 <;> simp at b1 b2 b3 ⊢ <;> omega
     obtain ⟨i', hi'⟩ : ∃ i', i' = up i p1 := ⟨_, rfl⟩
     obtain ⟨j', hj'⟩ : ∃ j', j' = up j p2 := ⟨_, rfl⟩
     have HMl := hid HM.out.le
     have HS := hid (HM.out.step HN.out i' j' (by rw [hi', HP1.out]) (by rw [hj', HP2.out]) (by rw [hi', hj']; exact HI.out.2.2))
     rw [← HX.out] at HS
     rw [← hi', ← hj'] at HI ⊢
     clear hi' hj' HP1 HP2 HN HX HM
     obtain ⟨b1, b2, b3⟩ := HI.out
     have C1 := hid (fun u => odd_any i' u)
     have C2 := hid (fun u => odd_any j' u)
     have C3 := hid (fun u => odd_any E.length u)
     have C4 := hid (fun u => HG.out.run (od i') (od j') u)
     obtain ⟨av, cv, hv, hEr⟩ := rdj_of_owns HO2.out.own
     have hEl := hEr.small
     subst hv
     clear hEr
     go_wp2_with fail
     refine (C1.out _).mono ?_
     rintro e w1 ⟨rfl, rfl⟩
     go_wp2_with fail
     refine (C2.out _).mono ?_
     rintro e w2 ⟨rfl, rfl⟩
     go_wp2_with fail
     refine (C4.out _).mono ?_
     rintro e w2 ⟨rfl, rfl⟩
     go_wp2_with fail
     refine (C3.out _).mono ?_
     rintro e w2 ⟨rfl, rfl⟩
     have HOW := hid (HO2.out.own.alloc (.cells #[.int .i64 X] 3))
     have HSR := hid (src1 w2 X)
     have HSZ := (HO2.out.on (below_new _ (.cells #[.int .i64 X] 3))).size
     have hlen : E.length ≤ 3000000 := by
      rcases Nat.lt_or_ge 3000000 E.length with h | h
      ·exfalso
       have h2 : E.length ≤ i + j := HMl.out
       omega
      ·exact h
     have HA : Hid (∀ v' w', w'.ownsRow w.heap.size 3 1 v' (E.length + 1) (nums E ++ nums [X]) → (w2.alloc (.cells #[.int .i64 X] 3)).grownBy w' (Value.slice av E.length cv).ownBlock → OwJ w w' v' (E ++ [X])) := fun v' w' o g => HO2.out.grown o g
     clear C1 C2 C3 C4
     generalize f (od i') (od j') = r1 at HS ⊢
     generalize od E.length = r2 at HS ⊢
     cases r1 <;> cases r2
     ·have HM2 := hid (HS.out.1 rfl)
      clear HOW HSR HSZ HA
      go_wp2
      go_roundw
      case rel => exact ⟨i', j', E, rfl, rfl, b1, b2, HM2.out, HO2.out⟩
      case measure => simp [numOf]; omega
     ·have HM2 := hid (HS.out.2 (by decide))
      go_wp2_with (at_builtin; refine wpList_append_own_src _ rfl (.tmp 66) (.tmp 68) 120 120 rfl w.heap.size 3 i0 (.int .i64 0) 1 8 Tryz.underlying120 hi hz0 hz1 hz2 rfl _ _ _ rfl HOW.out _ _ _ rfl HSR.out (by simp only [maxLen]; omega) (fitsI (by omega)) HSZ ?_; intro v3 w3 o3 g3; have H3 := hid (HA.out _ _ o3 g3); clear o3 g3 HA HOW HSR HSZ)
      go_wp2
      go_roundw
      case rel => exact ⟨i', j', E ++ [X], rfl, rfl, b1, b2, HM2.out, H3.out⟩
      case measure => simp [numOf]; omega
     ·have HM2 := hid (HS.out.2 (by decide))
      go_wp2_with (at_builtin; refine wpList_append_own_src _ rfl (.tmp 66) (.tmp 68) 120 120 rfl w.heap.size 3 i0 (.int .i64 0) 1 8 Tryz.underlying120 hi hz0 hz1 hz2 rfl _ _ _ rfl HOW.out _ _ _ rfl HSR.out (by simp only [maxLen]; omega) (fitsI (by omega)) HSZ ?_; intro v3 w3 o3 g3; have H3 := hid (HA.out _ _ o3 g3); clear o3 g3 HA HOW HSR HSZ)
      go_wp2
      go_roundw
      case rel => exact ⟨i', j', E ++ [X], rfl, rfl, b1, b2, HM2.out, H3.out⟩
      case measure => simp [numOf]; omega
     ·have HM2 := hid (HS.out.1 rfl)
      clear HOW HSR HSZ HA
      go_wp2
      go_roundw
      case rel => exact ⟨i', j', E, rfl, rfl, b1, b2, HM2.out, HO2.out⟩
      case measure => simp [numOf]; omega
  ·have e1 : decide ((i : Int) < n) = false := decide_eq_false (by omega)
   have e2 : decide ((j : Int) < n') = false := decide_eq_false (by omega)
   have HE : Hid (E = mix f false false false A B) := by
    have := HM.out.eq
    rw [List.drop_eq_nil_of_le (by rw [HL.out]; omega), List.drop_eq_nil_of_le (by rw [HL'.out]; omega), mix_nil, List.append_nil] at this
    exact this
   go_wp2
   go_ret
   rw [← HE.out]
   exact ⟨_, rfl, HO.out⟩
end
end Go.Proofs.YtpbgbpcdohdecaaGreatDoor
