/- The document's store, II: Size, Live, Info, Resize. -/
import Derived.Test.YtnfenfleahennaaDoorPolH
namespace Go.Proofs.YtnfenfleahennaaDoor
open Go Go.RowKit

variable {base : Nat} {w w' : World} {q : Nat} {P : PL} {B : BL}

theorem dfb_set {g : Nat} (hk : Kp [g] w w') (hb : base ≤ w.heap.size) (hg : base ≤ g) (ho : Own w q g) (hgq : g ≠ q) : Dfb base q w w' := by
  have hq : q < w.heap.size := by
    obtain ⟨pv, bv, T, f, h, _⟩ := ho
    exact (Array.getElem?_eq_some_iff.1 h).1
  refine ⟨hk.below hb (fun k hk => by simp only [List.mem_cons, List.not_mem_nil, or_false] at hk; rw [hk]; exact hg), fun k hl _ hno => ⟨hk.block k hl (by simp only [List.mem_cons, List.not_mem_nil, or_false]; rintro rfl; exact hno ho), fun ⟨pv, bv, T, f, h, h2⟩ => hno ⟨pv, bv, T, f, ?_, h2⟩⟩⟩
  rw [← hk.block q hq (by simpa using fun e : q = g => hgq e.symm)]
  exact h

/-- A pool's place. -/
theorem Dst.pat (h : Dst base w q P B) {id : Int} {x : Pl} (hx : gt P id = some x) : ∃ g c, w.cell? ⟨q, 0, none⟩ = some (.slice (some ⟨g, 0, none⟩) P.length c) ∧ P.length ≤ c ∧ c ≤ maxLen ∧ base ≤ g ∧ g < w.heap.size ∧ g ≠ q ∧
    w.cell? ⟨g, ix P id * 3 + 1, none⟩ = some (.int .i64 x.1) ∧ w.cell? ⟨g, ix P id * 3 + 2, none⟩ = some (.int .i64 x.2) ∧ w.frozen? ⟨g, ix P id * 3 + 2, none⟩ = false ∧
    ∀ size : Int, (1 ≤ size ∧ size ≤ 65536) → Dst base (w.setCell ⟨g, ix P id * 3 + 2, none⟩ (.int .i64 size)) q (wr P id (x.1, size)) B ∧ Dfb base q w (w.setCell ⟨g, ix P id * 3 + 2, none⟩ (.int .i64 size)) := by
  obtain ⟨pv, bv, hv, hp, hb, n1, n2, n3⟩ := h.var
  have hlt := ix_lt hx
  have hix := ix_some hx
  rcases hp.2 with ⟨rfl, h0⟩ | ⟨g, cap, cur, rfl, hb', hg, hn, hm, _, _⟩
  · omega
  · have hc := fun j hj => hp.cellAt j hj
    have hgq : g ≠ q := fun e => n1 (by rw [← e]; rfl)
    refine ⟨g, cap, by rw [Lib.cell_of_heap hv]; rfl, hn, hm, hb', (Array.getElem?_eq_some_iff.1 hg).1, hgq, ?_, ?_, hp.frozenAt _, fun size hs => ?_⟩
    · rw [hc _ (by omega), pcs, fm_at pcs_len hix 1 (by decide)]; rfl
    · rw [hc _ (by omega), pcs, fm_at pcs_len hix 2 (by decide)]; rfl
    · have hw : wr P id (x.1, size) = P.set (ix P id) (id, (x.1, size)) := by rw [wr, hx, Option.isSome_some, if_pos rfl, st_ix h.ok.pn hx]
      have hk : Kp [g] w (w.setCell ⟨g, ix P id * 3 + 2, none⟩ (.int .i64 size)) := (Kp.refl [g] w).set _ (by simp) _
      refine ⟨⟨h.lo, h.ok.wrp id _ hs, _, _, hk.var hv (by simpa using fun e : q = g => hgq e.symm), ?_, ?_, n1, n2, n3⟩, dfb_set hk (Nat.le_of_lt (Nat.lt_of_le_of_lt h.lo h.lt)) hb' ⟨_, _, _, _, hv, Or.inl rfl⟩ hgq⟩
      · have hst := hp.stored (ix P id * 3 + 2) (.int .i64 size)
        rw [pcs, fm_set (y := (id, (x.1, size))) pcs_len hix 2 (by decide) _ rfl, ← hw] at hst
        have hl : (wr P id (x.1, size)).length = P.length := by rw [hw, List.length_set]
        rw [hl]
        exact hst.1
      · exact hk.row hb (fun k hk' => by
          simp only [List.mem_cons, List.not_mem_nil, or_false]
          rintro rfl
          exact n3 k rfl hk')

/-- A buffer's place. -/
theorem Dst.bat (h : Dst base w q P B) {id : Int} {x : Bf} (hx : gt B id = some x) : ∃ g c, w.cell? ⟨q, 1, none⟩ = some (.slice (some ⟨g, 0, none⟩) B.length c) ∧ B.length ≤ c ∧ c ≤ maxLen ∧ base ≤ g ∧ g < w.heap.size ∧ g ≠ q ∧
    (w.cell? ⟨g, ix B id * 8 + 1, none⟩ = some (.int .i64 x.1.k) ∧ w.cell? ⟨g, ix B id * 8 + 1 + 1, none⟩ = some (.int .i64 x.1.o) ∧ w.cell? ⟨g, ix B id * 8 + 1 + 2, none⟩ = some (.int .i64 x.1.w) ∧ w.cell? ⟨g, ix B id * 8 + 1 + 3, none⟩ = some (.int .i64 x.1.h) ∧ w.cell? ⟨g, ix B id * 8 + 1 + 4, none⟩ = some (.int .i64 x.1.s) ∧ w.cell? ⟨g, ix B id * 8 + 1 + 5, none⟩ = some (.int .i64 x.1.f)) ∧ w.cell? ⟨g, ix B id * 8 + 7, none⟩ = some (.bool (!x.2)) ∧ w.frozen? ⟨g, ix B id * 8 + 7, none⟩ = false ∧
    (Dst base (w.setCell ⟨g, ix B id * 8 + 7, none⟩ (.bool false)) q P (wr B id (x.1, true)) ∧ Dfb base q w (w.setCell ⟨g, ix B id * 8 + 7, none⟩ (.bool false))) := by
  obtain ⟨pv, bv, hv, hp, hb, n1, n2, n3⟩ := h.var
  have hlt := ix_lt hx
  have hix := ix_some hx
  rcases hb.2 with ⟨rfl, h0⟩ | ⟨g, cap, cur, rfl, hb', hg, hn, hm, _, _⟩
  · omega
  · have hc := fun j hj => hb.cellAt j hj
    have hgq : g ≠ q := fun e => n2 (by rw [← e]; rfl)
    refine ⟨g, cap, by rw [Lib.cell_of_heap hv]; rfl, hn, hm, hb', (Array.getElem?_eq_some_iff.1 hg).1, hgq, ⟨?_, ?_, ?_, ?_, ?_, ?_⟩, ?_, hb.frozenAt _, ?_⟩
    · rw [hc _ (by omega), bcs, fm_at bcs_len hix 1 (by decide)]; rfl
    · rw [Nat.add_assoc, hc _ (by omega), bcs, fm_at bcs_len hix 2 (by decide)]; rfl
    · rw [Nat.add_assoc, hc _ (by omega), bcs, fm_at bcs_len hix 3 (by decide)]; rfl
    · rw [Nat.add_assoc, hc _ (by omega), bcs, fm_at bcs_len hix 4 (by decide)]; rfl
    · rw [Nat.add_assoc, hc _ (by omega), bcs, fm_at bcs_len hix 5 (by decide)]; rfl
    · rw [Nat.add_assoc, hc _ (by omega), bcs, fm_at bcs_len hix 6 (by decide)]; rfl
    · rw [hc _ (by omega), bcs, fm_at bcs_len hix 7 (by decide)]; rfl
    · have hw : wr B id (x.1, true) = B.set (ix B id) (id, (x.1, true)) := by rw [wr, hx, Option.isSome_some, if_pos rfl, st_ix h.ok.bn hx]
      have hk : Kp [g] w (w.setCell ⟨g, ix B id * 8 + 7, none⟩ (.bool false)) := (Kp.refl [g] w).set _ (by simp) _
      refine ⟨⟨h.lo, h.ok.wrb id _, _, _, hk.var hv (by simpa using fun e : q = g => hgq e.symm), ?_, ?_, n1, n2, n3⟩, dfb_set hk (Nat.le_of_lt (Nat.lt_of_le_of_lt h.lo h.lt)) hb' ⟨_, _, _, _, hv, Or.inr rfl⟩ hgq⟩
      · exact hk.row hp (fun k hk' => by
          simp only [List.mem_cons, List.not_mem_nil, or_false]
          rintro rfl
          exact n3 k hk' rfl)
      · have hst := hb.stored (ix B id * 8 + 7) (.bool false)
        rw [bcs, fm_set (y := (id, (x.1, true))) bcs_len hix 7 (by decide) (.bool false) rfl, ← hw] at hst
        have hl : (wr B id (x.1, true)).length = B.length := by rw [hw, List.length_set]
        rw [hl]
        exact hst.1

set_option maxRecDepth 100000 in
theorem rsize_any (hT : Dst base w q P B) (hn : P.length < 1000) (id : Int) :
    Calls Tryd.prog 25 #[.pointer (some ⟨q, 0, none⟩), .int .i64 id] w fun e w' => e = .returned (.int .i64 (szOf P id)) ∧ w' = w := by
  have HP := hid (rpool_any hT hn id)
  cases hx : gt P id with
  | none =>
    have HS : Hid (szOf P id = -1) := by rw [Hid, szOf, hx]
    rw [ixI_none hx] at HP
    clear hT hx
    go_enter Tryd.func25, Tryd.ntmps25
    go_wp2_with fail
    refine HP.out.mono ?_
    rintro e w1 ⟨rfl, rfl⟩
    go_wp2
    go_ret
    rw [HS.out]
    exact ⟨rfl, rfl⟩
  | some x =>
    have HS : Hid (szOf P id = x.2) := by rw [Hid, szOf, hx]
    obtain ⟨g, c, c0, hle, hmax, -, -, -, -, c2, -, -⟩ := hT.pat hx
    have hlt := ix_lt hx
    rw [ixI_some hx] at HP
    simp only [maxLen] at hmax
    generalize ix P id = j at *
    generalize P.length = n at *
    have e1 : decide ((j : Int) < 0) = false := decide_eq_false (by omega)
    clear hT hx
    go_enter Tryd.func25, Tryd.ntmps25
    go_wp2_with fail
    refine HP.out.mono ?_
    rintro e w1 ⟨rfl, rfl⟩
    go_wp2
    go_ret
    rw [HS.out]
    exact ⟨rfl, rfl⟩

set_option maxRecDepth 100000 in
theorem rlive_any (hT : Dst base w q P B) (hn : B.length < 1000) (id : Int) :
    Calls Tryd.prog 27 #[.pointer (some ⟨q, 0, none⟩), .int .i64 id] w fun e w' => e = .returned (.bool (liveOf B id)) ∧ w' = w := by
  have HP := hid (rbuffer_any hT hn id)
  cases hx : gt B id with
  | none =>
    have HS : Hid (liveOf B id = false) := by rw [Hid, liveOf, hx]
    rw [ixI_none hx] at HP
    clear hT hx
    go_enter Tryd.func27, Tryd.ntmps27
    go_wp2_with fail
    refine HP.out.mono ?_
    rintro e w1 ⟨rfl, rfl⟩
    go_wp2
    go_ret
    rw [HS.out]
    exact ⟨rfl, rfl⟩
  | some x =>
    have HS : Hid (liveOf B id = !x.2) := by rw [Hid, liveOf, hx]
    obtain ⟨g, c, c0, hle, hmax, -, -, -, -, c2, -, -⟩ := hT.bat hx
    have hlt := ix_lt hx
    rw [ixI_some hx] at HP
    simp only [maxLen] at hmax
    generalize ix B id = j at *
    generalize B.length = n at *
    have e1 : decide ((0 : Int) ≤ j) = true := decide_eq_true (by omega)
    clear hT hx
    go_enter Tryd.func27, Tryd.ntmps27
    go_wp2_with fail
    refine HP.out.mono ?_
    rintro e w1 ⟨rfl, rfl⟩
    go_wp2
    go_ret
    rw [HS.out]
    exact ⟨rfl, rfl⟩

theorem infoM : (Tryd.prog.info? 47).map (·.size) = some 6 := by kernel_rfl

set_option maxRecDepth 100000 in
theorem rinfo_any (hT : Dst base w q P B) (hn : B.length < 1000) (id : Int) :
    Calls Tryd.prog 42 #[.pointer (some ⟨q, 0, none⟩), .int .i64 id] w fun e w' => e = .returned (infoV B id) ∧ Below w.heap.size w w' := by
  have hw1 : Below w.heap.size w (w.alloc (.cells #[.int .i64 0, .int .i64 0, .int .i64 0, .int .i64 0, .int .i64 0, .int .i64 0] 47 (0, 0))) := (Below.refl _ _).alloc (Nat.le_refl _) _
  have HP := hid (rbuffer_any (hT.on hw1) hn id)
  have HB := hid hw1
  cases hx : gt B id with
  | none =>
    have HS : Hid (infoV B id = .tuple #[.agg #[.int .i64 0, .int .i64 0, .int .i64 0, .int .i64 0, .int .i64 0, .int .i64 0], .bool false]) := by rw [Hid, infoV, hx]; rfl
    rw [ixI_none hx] at HP
    clear hT hx hw1
    go_enter Tryd.func42, Tryd.ntmps42
    go_wp2_with fail
    refine HP.out.mono ?_
    rintro e w1 ⟨rfl, rfl⟩
    go_wp2
    refine bodyPost_ret (results_cell_tmp rfl _ _ w.heap.size _ _ _ _ rfl (heap_alloc_new w _) Tryd.underlying47 rfl infoM) rfl ?_
    rw [HS.out]
    exact ⟨rfl, HB.out⟩
  | some x =>
    have HS : Hid (infoV B id = .tuple #[nfv x.1, .bool true]) := by rw [Hid, infoV, hx]; rfl
    obtain ⟨g, c, c0, hle, hmax, -, hgl, -, ⟨d0, d1, d2, d3, d4, d5⟩, -, -, -⟩ := (hT.on hw1).bat hx
    have hlt := ix_lt hx
    have hgw : g ≠ w.heap.size := by
      rintro rfl
      obtain ⟨g2, c2, c02, -, -, -, hgl2, -⟩ := hT.bat hx
      rw [hw1.cell hT.lt, c02] at c0
      cases c0
      omega
    rw [ixI_some hx] at HP
    simp only [maxLen] at hmax
    generalize ix B id = j at *
    generalize B.length = n at *
    have e1 : decide ((j : Int) < 0) = false := decide_eq_false (by omega)
    clear hT hx hw1
    go_enter Tryd.func42, Tryd.ntmps42
    go_wp2_with fail
    refine HP.out.mono ?_
    rintro e w1 ⟨rfl, hw1⟩
    subst hw1
    go_wp2
    refine bodyPost_ret (results_cell_tmp rfl _ _ w.heap.size _ _ _ _ rfl (heap_alloc_new w _) Tryd.underlying47 rfl infoM) rfl ?_
    rw [HS.out]
    exact ⟨rfl, (Below.refl _ _).alloc (Nat.le_refl _) _⟩

/-- What a call of the document's that may write answers. -/
def Dgv (base : Nat) (w : World) (q : Nat) (k : Nat) (P : PL) (B : BL) (e : Ending) (w' : World) : Prop :=
  e = .returned (.int .i64 (k : Nat)) ∧ Dst base w' q P B ∧ Dfb base q w w'
theorem dgv_no (hT : Dst base w q P B) (k k' : Nat) (P' : PL) (B' : BL) (hk : k' = k) (hP : P' = P) (hB : B' = B) : Dgv base w q k' P' B' (.returned (.int .i64 (k : Nat))) w := by
  rw [hk, hP, hB]
  exact ⟨rfl, hT, Dfb.refl _ _ _⟩

set_option maxRecDepth 100000 in
theorem rresize_any (hT : Dst base w q P B) (hn : P.length < 1000) (id size memory : Int) :
    Calls Tryd.prog 15 #[.pointer (some ⟨q, 0, none⟩), .int .i64 id, .int .i64 size, .int .i64 memory] w fun e w' => Dgv base w q (rszE P id size memory) (rszS P id size memory) B e w' := by
  have HP := hid (rpool_any hT hn id)
  cases hx : gt P id with
  | none =>
    have he : rszE P id size memory = 5 := by rw [rszE, hx]
    have HX := hid (dgv_no hT 5 _ _ B he (show rszS P id size memory = P by rw [rszS, he, if_neg (by decide)]) rfl)
    rw [ixI_none hx] at HP
    clear hT hx he
    go_enter Tryd.func15, Tryd.ntmps15
    go_wp2_with fail
    refine HP.out.mono ?_
    rintro e w1 ⟨rfl, rfl⟩
    go_wp2
    go_ret
    exact HX.out
  | some x =>
    have he : rszE P id size memory = gvE size x.2 memory := by rw [rszE, hx]
    obtain ⟨g, c, c0, hle, hmax, -, hgl, hgq, -, c2, f2, hset⟩ := hT.pat hx
    have hlt := ix_lt hx
    have hx1 := (hT.ok.at_ hx).1
    rw [ixI_some hx] at HP
    simp only [maxLen] at hmax
    have HT := hid hT
    have HG := hid hx
    have HSET := hid hset
    have HE := hid he
    clear hT hx hset he
    generalize ix P id = j at *
    generalize hN : P.length = n at *
    clear hN
    have e1 : decide ((j : Int) < 0) = false := decide_eq_false (by omega)
    by_cases h1 : size < x.2
    · have e2 : decide (size < x.2) = true := decide_eq_true h1
      have hee : rszE P id size memory = 8 := by rw [HE.out, gv8 (.inl h1)]
      have HX := hid (dgv_no HT.out 8 _ _ B hee (show rszS P id size memory = P by rw [rszS, hee, if_neg (by decide)]) rfl)
      clear hee
      go_enter Tryd.func15, Tryd.ntmps15
      go_wp2_with fail
      refine HP.out.mono ?_
      rintro e w1 ⟨rfl, rfl⟩
      go_wp2
      go_ret
      exact HX.out
    · have e2 : decide (size < x.2) = false := decide_eq_false h1
      by_cases h2 : 65536 < size
      · have e3 : decide (65536 < size) = true := decide_eq_true h2
        have hee : rszE P id size memory = 8 := by rw [HE.out, gv8 (.inr h2)]
        have HX := hid (dgv_no HT.out 8 _ _ B hee (show rszS P id size memory = P by rw [rszS, hee, if_neg (by decide)]) rfl)
        clear hee
        go_enter Tryd.func15, Tryd.ntmps15
        go_wp2_with fail
        refine HP.out.mono ?_
        rintro e w1 ⟨rfl, rfl⟩
        go_wp2
        go_ret
        exact HX.out
      · have e3 : decide (65536 < size) = false := decide_eq_false h2
        by_cases h3 : memory < size
        · have e4 : decide (memory < size) = true := decide_eq_true h3
          have hee : rszE P id size memory = 9 := by rw [HE.out, gv9 (by omega) h3]
          have HX := hid (dgv_no HT.out 9 _ _ B hee (show rszS P id size memory = P by rw [rszS, hee, if_neg (by decide)]) rfl)
          clear hee
          go_enter Tryd.func15, Tryd.ntmps15
          go_wp2_with fail
          refine HP.out.mono ?_
          rintro e w1 ⟨rfl, rfl⟩
          go_wp2
          go_ret
          exact HX.out
        · have e4 : decide (memory < size) = false := decide_eq_false h3
          have HX : Hid (Dgv base w q (rszE P id size memory) (rszS P id size memory) B (.returned (.int .i64 (0 : Nat))) (w.setCell ⟨g, j * 3 + 2, none⟩ (.int .i64 size))) := by
            have hee : rszE P id size memory = 0 := by rw [HE.out, gv0 (by omega) h3]
            rw [Hid, rszS, hee, if_pos rfl, HG.out]
            obtain ⟨s1, s2⟩ := HSET.out size (by omega)
            exact ⟨rfl, s1, s2⟩
          go_enter Tryd.func15, Tryd.ntmps15
          go_wp2_with fail
          refine HP.out.mono ?_
          rintro e w1 ⟨rfl, rfl⟩
          go_wp2
          go_ret
          exact HX.out
end Go.Proofs.YtnfenfleahennaaDoor
