/- The document's windows: W, Step, Top, Untop, Commit. -/
import Derived.Test.YtnlaegleekghmaaDoorRsA
namespace Go.Proofs.YtnlaegleekghmaaDoor
open Go Go.RowKit

variable {base : Nat} {w w' : World} {q : Nat} {v : Value} {R : Dwl} {id : Int} {e : Dw}
theorem ix_key {α : Type} {l : List (Int × α)} {k : Int} {j : Nat} (hj : j < l.length) (hi : j ≤ ix l k) : ∃ x, l[j]? = some x ∧ (j = ix l k ↔ x.1 = k) := by
  refine ⟨l[j], List.getElem?_eq_getElem hj, ⟨fun h => ?_, fun h => ?_⟩⟩
  · cases hg : gt l k with
    | none => have := ix_none hg; omega
    | some y =>
      have := ix_some hg
      rw [← h, List.getElem?_eq_getElem hj] at this
      rw [Option.some.inj this]
  · rcases Nat.lt_or_ge j (ix l k) with h1 | h1
    · exact absurd h (ix_ahead l k j h1 _ (List.getElem?_eq_getElem hj))
    · omega
/-- What W answers. -/
def rwV (v : Value) (R : Dwl) (id : Int) : Value := match v, gt R id with
  | .slice (some x) _ _, some _ => .pointer (some ⟨x.block, ix R id * 3, none⟩)
  | _, _ => .pointer none
theorem rwV_no (hq : gt R id = none) : rwV v R id = .pointer none := by
  unfold rwV
  rw [hq]
  cases v with
  | slice a n c => cases a <;> rfl
  | _ => rfl
theorem rwV_yes {g n c : Nat} (hq : gt R id = some e) : rwV (.slice (some ⟨g, 0, none⟩) n c) R id = .pointer (some ⟨g, ix R id * 3, none⟩) := by
  unfold rwV
  rw [hq]
set_option maxRecDepth 100000 in
set_option maxHeartbeats 1000000 in
theorem rw_any (h : Ds base w q v R) (id : Int) :
    Calls Tryd.prog 24 #[.pointer (some ⟨q, 0, none⟩), .int .i64 id] w fun e w' => e = .returned (rwV v R id) ∧ w' = w := by
  obtain ⟨a, c, hv, hlen⟩ := h.shape
  subst hv
  have c0 := h.c0
  have l0 := h.lt
  have HD := hid h
  obtain ⟨N, hN⟩ : ∃ N, N = R.length := ⟨_, rfl⟩
  have HN := hid hN
  rw [← hN] at c0 hlen ⊢
  clear h hN
  go_enter Tryd.func24, Tryd.ntmps24
  go_wp2
  go_loopw [5] (fun i wr => ∃ j : Nat, i = .int .i64 j ∧ j ≤ N ∧ j ≤ ix R id ∧ wr = w) (fun i _ => N - (numOf i).toNat)
  case atStart => exact ⟨0, rfl, by omega, by omega, rfl⟩
  case round =>
    obtain ⟨j, rfl, hj, hji, rfl⟩ := hrel
    by_cases hgo : j < N
    · have e1 : decide ((j : Int) < N) = true := decide_eq_true (by omega)
      have e2 : (j : Int) < N := by omega
      obtain ⟨x, hx, hk⟩ := ix_key (l := R) (k := id) (j := j) (by rw [← HN.out]; exact hgo) hji
      obtain ⟨g, cc, hv, _, hgl, _, _, _, _, hcell⟩ := HD.out.form (by rw [← HN.out]; omega)
      cases hv
      have c1 : wr.cell? ⟨g, j * 3, none⟩ = some (.int .i64 x.1) := by
        rw [hcell (j * 3) (by rw [← HN.out]; omega)]
        exact dcs_at hx 0 (by decide)
      have HK := hid hk
      have HX := hid hx
      clear hcell hk hx
      cases hs : (x.1 == id)
      · have hlt : j + 1 ≤ ix R id := by
          have : j ≠ ix R id := fun h => by
            have := HK.out.1 h
            rw [this] at hs
            simp at hs
          omega
        go_wp2
        go_roundw
        case rel => exact ⟨j + 1, by go_num, by omega, hlt, trivial⟩
        case measure => simp [numOf]; omega
      · have he : j = ix R id := HK.out.2 (beq_iff_eq.1 hs)
        have HR : Hid (rwV (.slice (some ⟨g, 0, none⟩) N c) R id = .pointer (some ⟨g, j * 3, none⟩)) := by
          have hy := HX.out
          rw [he] at hy
          cases hg : gt R id with
          | none =>
            have := ix_none hg
            have := HN.out
            omega
          | some y => rw [Hid, rwV_yes hg, ← he]
        clear he
        go_wp2
        go_ret
        rw [HR.out]
        exact ⟨rfl, rfl⟩
    · have e1 : decide ((j : Int) < N) = false := decide_eq_false (by omega)
      have HR : Hid (rwV (.slice a N c) R id = .pointer none) := by
        refine rwV_no ?_
        cases hg : gt R id with
        | none => rfl
        | some y =>
          have := ix_lt hg
          have := HN.out
          omega
      go_wp2
      go_ret
      rw [HR.out]
      exact ⟨rfl, rfl⟩
theorem wStep_no (hq : gt R id = none) : wStep (dab R) id = -1 := by rw [wStep, gt_dab, hq]; rfl
theorem wStep_yes (hq : gt R id = some e) : wStep (dab R) id = e.s.step := by rw [wStep, gt_dab, hq]; rfl
/-- A window's cells in the row. -/
theorem Ds.at_ (h : Ds base w q v R) (hq : gt R id = some e) : ∃ g c, v = .slice (some ⟨g, 0, none⟩) R.length c ∧ base ≤ g ∧ g < w.heap.size ∧ g ≠ q ∧ (∀ j, w.frozen? ⟨g, j, none⟩ = false) ∧ w.cell? ⟨g, ix R id * 3 + 1, none⟩ = some (.int .i64 e.s.step) ∧ w.cell? ⟨g, ix R id * 3 + 2, none⟩ = some (.slice e.a e.n e.c) := by
  have hl := ix_lt hq
  obtain ⟨g, c, hv, h1, h2, h3, _, _, h4, h5⟩ := h.form (by omega)
  refine ⟨g, c, hv, h1, h2, h3, h4, ?_, ?_⟩
  · rw [h5 _ (by omega)]
    exact dcs_at (ix_some hq) 1 (by decide)
  · rw [h5 _ (by omega)]
    exact dcs_at (ix_some hq) 2 (by decide)
set_option maxRecDepth 100000 in
theorem rstep_any (h : Ds base w q v R) (id : Int) :
    Calls Tryd.prog 27 #[.pointer (some ⟨q, 0, none⟩), .int .i64 id] w fun e w' => e = .returned (.int .i64 (wStep (dab R) id)) ∧ w' = w := by
  have HW := hid (rw_any h id)
  cases hg : gt R id with
  | none =>
    rw [rwV_no hg] at HW
    rw [wStep_no hg]
    clear hg h
    go_enter Tryd.func27, Tryd.ntmps27
    go_wp2_with fail
    refine HW.out.mono ?_
    rintro e w1 ⟨rfl, rfl⟩
    go_wp2
    go_ret
    exact ⟨rfl, rfl⟩
  | some e =>
    obtain ⟨g, c, rfl, _, l1, _, _, c1, _⟩ := h.at_ hg
    rw [rwV_yes hg] at HW
    rw [wStep_yes hg]
    clear hg h
    go_enter Tryd.func27, Tryd.ntmps27
    go_wp2_with fail
    refine HW.out.mono ?_
    rintro e w1 ⟨rfl, rfl⟩
    go_wp2
    go_ret
    exact ⟨rfl, rfl⟩
theorem dUp_no {f : Wn → Option Wn} (hq : gt R id = none) : wUp (dab R) id f = dab R := by rw [wUp, gt_dab, hq]; rfl
theorem dUp_none {f : Wn → Option Wn} (hq : gt R id = some e) (hf : f e.s = none) : wUp (dab R) id f = dab R := by rw [wUp, gt_dab, hq]; simp only [Option.map_some, hf]
theorem dUp_some {f : Wn → Option Wn} {y : Wn} (hq : gt R id = some e) (hf : f e.s = some y) : wUp (dab R) id f = st (dab R) id y := by rw [wUp, gt_dab, hq]; simp only [Option.map_some, hf]
theorem dErr_no {f : Wn → Nat} (hq : gt R id = none) : wErr (dab R) id f = 5 := by rw [wErr, gt_dab, hq]; rfl
theorem dErr_yes {f : Wn → Nat} (hq : gt R id = some e) : wErr (dab R) id f = f e.s := by rw [wErr, gt_dab, hq]; rfl
/-- The step written. -/
theorem Ds.putStep (h : Ds base w q v R) (hq : gt R id = some e) {g n c : Nat} (hv : v = .slice (some ⟨g, 0, none⟩) n c) (k : Nat) : DsR base w q v R (st (dab R) id ⟨k, e.s.ser⟩) (w.setCell ⟨g, ix R id * 3 + 1, none⟩ (.int .i64 k)) := by
  obtain ⟨g', c', hv', _, _, _, _, _, h2⟩ := h.at_ hq
  rw [hv] at hv'
  cases hv'
  subst hv
  have hk : Kp [g] w (w.setCell ⟨g, ix R id * 3 + 1, none⟩ (.int .i64 k)) := (Kp.refl [g] w).set ⟨g, _, none⟩ (by simp) _
  refine h.turn hq hk (fun b hb => by simp only [List.mem_singleton] at hb; rw [hb]; rfl) ⟨e.a, e.n, e.c, ⟨k, e.s.ser⟩⟩ ?_ ((h.rd id e hq).kpo hk (fun b hb hm => ?_)) (fun b hb => .inl hb)
  · have h3 := (h.own.stored (ix R id * 3 + 1) (.int .i64 k)).1
    have e1 : dcs (st R id ⟨e.a, e.n, e.c, ⟨k, e.s.ser⟩⟩) = (dcs R).set (ix R id * 3 + 1) (.int .i64 k) := by
      rw [dcs_st h.nd hq]
      refine List.ext_getElem? fun j => ?_
      by_cases hj : j = ix R id * 3 + 2
      · subst hj
        have hl : ix R id * 3 + 2 < (dcs R).length := by have := ix_lt hq; rw [dcs_length]; omega
        rw [List.getElem?_set_self (by rw [List.length_set]; exact hl), List.getElem?_set_ne (by omega), dcs_at (ix_some hq) 2 (by decide)]
        rfl
      · rw [List.getElem?_set_ne (fun h => hj h.symm)]
    rw [e1]
    exact h3
  · simp only [List.mem_singleton] at hm
    exact (h.far id e hq b hb).2.2.2 (by rw [hm]; rfl)
/-- The serials written, and the step too. -/
theorem Ds.putBoth {w1 : World} (h : Ds base w q v R) (hq : gt R id = some e) (hb1 : Below w.heap.size w w1) {g n c : Nat} (hv : v = .slice (some ⟨g, 0, none⟩) n c) (k : Nat) (a' : Option Addr) (n' c' : Nat) (l' : List Int) (hrd : Rz w1 a' n' c' l') (hn : ∀ b ∈ obk a', w.heap.size ≤ b ∧ b < w1.heap.size) (W : World)
    (hW : (W = w1.setCell ⟨g, ix R id * 3 + 2, none⟩ (.slice a' n' c') ∧ k = e.s.step) ∨ W = (w1.setCell ⟨g, ix R id * 3 + 1, none⟩ (.int .i64 k)).setCell ⟨g, ix R id * 3 + 2, none⟩ (.slice a' n' c') ∨ W = (w1.setCell ⟨g, ix R id * 3 + 2, none⟩ (.slice a' n' c')).setCell ⟨g, ix R id * 3 + 1, none⟩ (.int .i64 k)) : DsR base w q v R (st (dab R) id ⟨k, l'⟩) W := by
  obtain ⟨g', c2, hv', hbg, hgl, _, _, h1, h2⟩ := h.at_ hq
  rw [hv] at hv'
  cases hv'
  subst hv
  have hk1 : Kp [g] w1 W := by
    rcases hW with ⟨rfl, _⟩ | rfl | rfl
    · exact (Kp.refl [g] w1).set ⟨g, _, none⟩ (by simp) _
    · exact ((Kp.refl [g] w1).set ⟨g, _, none⟩ (by simp) _).set ⟨g, _, none⟩ (by simp) _
    · exact ((Kp.refl [g] w1).set ⟨g, _, none⟩ (by simp) _).set ⟨g, _, none⟩ (by simp) _
  have hk : Kp [g] w W := (kp_of_below hb1 [g]).trans hk1 (fun b hb _ => hb)
  have hl := ix_lt hq
  refine h.turn hq hk (fun b hb => by simp only [List.mem_singleton] at hb; rw [hb]; rfl) ⟨a', n', c', ⟨k, l'⟩⟩ ?_ (hrd.kpo hk1 (fun b hb hm => ?_)) (fun b hb => .inr ⟨(hn b hb).1, Nat.lt_of_lt_of_le (hn b hb).2 hk1.size⟩)
  · rw [dcs_st h.nd hq]
    have h0 := ownsRow_below h.own hb1
    rcases hW with ⟨rfl, hs⟩ | rfl | rfl
    · have e1 : (dcs R).set (ix R id * 3 + 1) (.int .i64 k) = dcs R := by
        refine List.ext_getElem? fun j => ?_
        by_cases hj : j = ix R id * 3 + 1
        · subst hj
          rw [List.getElem?_set_self (by rw [dcs_length]; omega), dcs_at (ix_some hq) 1 (by decide), hs]
          rfl
        · rw [List.getElem?_set_ne (fun h => hj h.symm)]
      rw [e1]
      exact (h0.stored _ _).1
    · exact ((h0.stored _ _).1.stored _ _).1
    · rw [List.set_comm _ _ (by omega)]
      exact ((h0.stored _ _).1.stored _ _).1
  · simp only [List.mem_singleton] at hm
    have := (hn b hb).1
    omega
end Go.Proofs.YtnlaegleekghmaaDoor
