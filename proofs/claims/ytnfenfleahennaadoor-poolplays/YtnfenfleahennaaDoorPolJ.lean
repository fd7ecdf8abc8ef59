/- The document's store, III: Pool, DropBuffer. -/
import Derived.Test.YtnfenfleahennaaDoorPolI
import Derived.Test.YtnfenfleahennaaDoorLibA
namespace Go.Proofs.YtnfenfleahennaaDoor
open Go Go.RowKit

theorem infoP : (Tryd.prog.info? 75).map (fun i => (i.zero, i.size, i.bytes)) = some (some (.agg #[.int .i64 0, .int .i64 0, .int .i64 0]), 3, 24) := by kernel_rfl
theorem infoB : (Tryd.prog.info? 79).map (fun i => (i.zero, i.size, i.bytes)) = some (some (.agg #[.int .i64 0, .int .i64 0, .int .i64 0, .int .i64 0, .int .i64 0, .int .i64 0, .int .i64 0, .bool false]), 8, 64) := by kernel_rfl
theorem infoI : (Tryd.prog.info? 3).map (fun i => (i.zero, i.size, i.bytes)) = some (some (.int .i64 0), 1, 8) := by kernel_rfl
theorem info_parts {P : Program} {e : TypeId} {z : Value} {n m : Nat} (h : (P.info? e).map (fun i => (i.zero, i.size, i.bytes)) = some (some z, n, m)) : ∃ i, P.info? e = some i ∧ i.zero = some z ∧ i.size = n ∧ i.bytes = m := by
  obtain ⟨i, hi, hz⟩ := Option.map_eq_some_iff.1 h
  simp only [Prod.mk.injEq] at hz
  exact ⟨i, hi, hz.1, hz.2.1, hz.2.2⟩
theorem fits64 {need : Nat} (h : need ≤ 4000) : ∀ b, b ≤ 64 → ∀ old, old < need → Builtin.nextslicecap need old * b ≤ 281474976710656 := fun b hb old ho => by
  have := nextslicecap_near ho
  have : Builtin.nextslicecap need old * b ≤ 10000 * 64 := Nat.mul_le_mul (by omega) hb
  omega

variable {base : Nat} {w w' : World} {q : Nat} {P : PL} {B : BL}

/-- A row of one's own as what is appended; its first k; those from k on. -/
theorem src_own {t e m n : Nat} {v : Value} {xs : List Value} (h : w.ownsRow base e m v n xs) (ht : Tryd.prog.underlying t = some (.slice e)) (h1 : ∀ u ∈ xs, u.oneCell' = true) : Src Tryd.prog m t v n xs w := by
  have hl := h.1
  rcases h.2 with ⟨rfl, rfl⟩ | ⟨g, cap, cur, rfl, hb, hg, hn, hm, _, _⟩
  · obtain rfl : xs = [] := List.eq_nil_of_length_eq_zero (by rw [hl]; simp)
    exact Src.ofNil w ht 0
  · refine Src.ofSlice w ht ⟨g, 0, none⟩ n cap xs hl (fun j u hu => ?_) h1
    rw [Go.WideShapes.add_plain, Nat.zero_add, h.cellAt j (by rw [← hl]; exact (List.getElem?_eq_some_iff.1 hu).1)]
    exact hu
theorem src_take {t e m n k c : Nat} {g : Nat} {xs : List Value} (h : w.ownsRow base e m (.slice (some ⟨g, 0, none⟩) n c) n xs) (ht : Tryd.prog.underlying t = some (.slice e)) (h1 : ∀ u ∈ xs, u.oneCell' = true) (hk : k ≤ n) (c' : Nat) : Src Tryd.prog m t (.slice (some ⟨g, 0, none⟩) k c') k (xs.take (k * m)) w := by
  have hl := h.1
  have hkm : k * m ≤ n * m := Nat.mul_le_mul_right m hk
  refine Src.ofSlice w ht ⟨g, 0, none⟩ k c' _ (by rw [List.length_take, hl]; omega) (fun j u hu => ?_) (fun u hu => h1 u (List.mem_of_mem_take hu))
  have hj : j < k * m := by
    have := (List.getElem?_eq_some_iff.1 hu).1
    rw [List.length_take] at this
    omega
  rw [List.getElem?_take_of_lt hj] at hu
  rw [Go.WideShapes.add_plain, Nat.zero_add, h.cellAt j (by omega)]
  exact hu
theorem src_drop {t e m n k c : Nat} {g : Nat} {xs : List Value} (h : w.ownsRow base e m (.slice (some ⟨g, 0, none⟩) n c) n xs) (ht : Tryd.prog.underlying t = some (.slice e)) (h1 : ∀ u ∈ xs, u.oneCell' = true) (c' : Nat) : Src Tryd.prog m t (.slice (some ⟨g, k * m, none⟩) (n - k) c') (n - k) (xs.drop (k * m)) w := by
  have hl := h.1
  refine Src.ofSlice w ht ⟨g, k * m, none⟩ (n - k) c' _ (by rw [List.length_drop, hl, Nat.sub_mul]) (fun j u hu => ?_) (fun u hu => h1 u (List.mem_of_mem_drop hu))
  rw [List.getElem?_drop] at hu
  rw [Go.WideShapes.add_plain, h.cellAt _ (by rw [← hl]; exact (List.getElem?_eq_some_iff.1 hu).1)]
  exact hu

theorem pair_set0 (a b v : Value) : (#[a, b] : Array Value).setIfInBounds 0 v = #[v, b] := rfl
theorem pair_set1 (a b v : Value) : (#[a, b] : Array Value).setIfInBounds 1 v = #[a, v] := rfl

theorem own_new_ne {u : World} {e m n : Nat} {v : Value} {xs : List Value} {D : Nat} (o : u.ownsRow D e m v n xs) {k : Nat} (hk : k < D) : v.ownBlock ≠ some k := fun h => by
  have := (o.lt k h).1
  omega

/-- Other pools in a row of the call's own. -/
theorem Dst.putP (hT : Dst base w q P B) {u : World} (hb : Below w.heap.size w u) {v : Value} {P' : PL} (o : u.ownsRow w.heap.size 75 3 v P'.length (pcs P')) (hok : Okp P' B) :
    Dst base (u.setCell ⟨q, 0, none⟩ v) q P' B ∧ Dfb base q w (u.setCell ⟨q, 0, none⟩ v) := by
  have hq := hT.lt
  have hlo := hT.lo
  obtain ⟨pv, bv, hv, hp, hb', n1, n2, n3⟩ := (hT.on hb).var
  refine ⟨⟨hlo, hok, v, bv, ?_, ?_, ?_, ?_, n2, ?_⟩, ?_⟩
  · rw [heap_setCell_same u q 0 _ _ v hv, pair_set0]
  · exact ownsRow_low (ownsRow_set o ⟨q, 0, none⟩ (own_new_ne o hq) v) (by omega)
  · exact ownsRow_set hb' ⟨q, 0, none⟩ n2 v
  · exact own_new_ne o hq
  · intro k hk hk2
    have h1 := (o.lt k hk).1
    obtain ⟨pv0, bv0, hv0, _, hb0, _⟩ := hT.var
    have : bv0 = bv := by
      rw [hb.block q hq, hv0] at hv
      simp only [Option.some.injEq, Obj.cells.injEq, Array.mk.injEq, List.cons.injEq, and_true] at hv
      exact hv.2
    subst this
    have h2 := (hb0.lt k hk2).2
    omega
  · refine ⟨(hb.mono (by omega)).setCell hlo _, fun k hk hkq hno => ⟨?_, ?_⟩⟩
    · rw [Below.heap_setCell _ _ _ _ (fun e => hkq e)]
      exact hb.block k hk
    · rintro ⟨x, y, T, f, h, h2⟩
      rw [heap_setCell_same u q 0 _ _ v hv, pair_set0] at h
      simp only [Option.some.injEq, Obj.cells.injEq, Array.mk.injEq, List.cons.injEq, and_true] at h
      obtain ⟨⟨rfl, rfl⟩, -⟩ := h
      rcases h2 with h2 | h2
      · exact own_new_ne o hk h2
      · exact hno ⟨pv, bv, _, _, by rw [← hb.block q hq]; exact hv, .inr h2⟩
theorem Dst.putB (hT : Dst base w q P B) {u : World} (hb : Below w.heap.size w u) {v : Value} {B' : BL} (o : u.ownsRow w.heap.size 79 8 v B'.length (bcs B')) (hok : Okp P B') :
    Dst base (u.setCell ⟨q, 1, none⟩ v) q P B' ∧ Dfb base q w (u.setCell ⟨q, 1, none⟩ v) := by
  have hq := hT.lt
  have hlo := hT.lo
  obtain ⟨pv, bv, hv, hp, hb', n1, n2, n3⟩ := (hT.on hb).var
  refine ⟨⟨hlo, hok, pv, v, ?_, ?_, ?_, n1, ?_, ?_⟩, ?_⟩
  · rw [heap_setCell_same u q 1 _ _ v hv, pair_set1]
  · exact ownsRow_set hp ⟨q, 1, none⟩ n1 v
  · exact ownsRow_low (ownsRow_set o ⟨q, 1, none⟩ (own_new_ne o hq) v) (by omega)
  · exact own_new_ne o hq
  · intro k hk hk2
    have h1 := (o.lt k hk2).1
    obtain ⟨pv0, bv0, hv0, hp0, _, _⟩ := hT.var
    have : pv0 = pv := by
      rw [hb.block q hq, hv0] at hv
      simp only [Option.some.injEq, Obj.cells.injEq, Array.mk.injEq, List.cons.injEq, and_true] at hv
      exact hv.1
    subst this
    have h2 := (hp0.lt k hk).2
    omega
  · refine ⟨(hb.mono (by omega)).setCell hlo _, fun k hk hkq hno => ⟨?_, ?_⟩⟩
    · rw [Below.heap_setCell _ _ _ _ (fun e => hkq e)]
      exact hb.block k hk
    · rintro ⟨x, y, T, f, h, h2⟩
      rw [heap_setCell_same u q 1 _ _ v hv, pair_set1] at h
      simp only [Option.some.injEq, Obj.cells.injEq, Array.mk.injEq, List.cons.injEq, and_true] at h
      obtain ⟨⟨rfl, rfl⟩, -⟩ := h
      rcases h2 with h2 | h2
      · exact hno ⟨pv, bv, _, _, by rw [← hb.block q hq]; exact hv, .inl h2⟩
      · exact own_new_ne o hk h2

theorem pcs_app (a b : PL) : pcs (a ++ b) = pcs a ++ pcs b := by simp [pcs]
theorem bcs_app (a b : BL) : bcs (a ++ b) = bcs a ++ bcs b := by simp [bcs]
theorem srcP (w : World) (e : Int × Pl) : Src Tryd.prog 3 26 (.slice (some ⟨w.heap.size, 0, none⟩) 1 1) 1 (pcs [e]) (w.alloc (.cells #[.int .i64 e.1, .int .i64 e.2.1, .int .i64 e.2.2] 75)) :=
  Src.ofSlice (P := Tryd.prog) _ Tryd.underlying26 ⟨w.heap.size, 0, none⟩ 1 1 (pcs [e]) rfl (fun q u hu => by
    match q, hu with
    | 0, hu => cases hu; simp [Addr.add]
    | 1, hu => cases hu; simp [Addr.add]
    | 2, hu => cases hu; simp [Addr.add]
    | q + 3, hu => simp [pcs, pcs1] at hu) (pcs_one _)
theorem srcB (w : World) (e : Int × Bf) : Src Tryd.prog 8 27 (.slice (some ⟨w.heap.size, 0, none⟩) 1 1) 1 (bcs [e]) (w.alloc (.cells #[.int .i64 e.1, .int .i64 e.2.1.k, .int .i64 e.2.1.o, .int .i64 e.2.1.w, .int .i64 e.2.1.h, .int .i64 e.2.1.s, .int .i64 e.2.1.f, .bool (!e.2.2)] 79)) :=
  Src.ofSlice (P := Tryd.prog) _ Tryd.underlying27 ⟨w.heap.size, 0, none⟩ 1 1 (bcs [e]) rfl (fun q u hu => by
    match q, hu with
    | 0, hu => cases hu; simp [Addr.add]
    | 1, hu => cases hu; simp [Addr.add]
    | 2, hu => cases hu; simp [Addr.add]
    | 3, hu => cases hu; simp [Addr.add]
    | 4, hu => cases hu; simp [Addr.add]
    | 5, hu => cases hu; simp [Addr.add]
    | 6, hu => cases hu; simp [Addr.add]
    | 7, hu => cases hu; simp [Addr.add]
    | q + 8, hu => simp [bcs, bcs1] at hu) (bcs_one _)

/-- Both appends. -/
theorem below_grown {u u' : World} {row : Option Nat} (hb : Below w.heap.size w u) (g : u.grownBy u' row) (hr : ∀ k, row = some k → w.heap.size ≤ k) : Below w.heap.size w u' := hb.grown g hb.size hr

set_option maxRecDepth 100000 in
theorem rpoolc_any (hT : Dst base w q P B) (hn : P.length < 999) (id key size memory : Int) :
    Calls Tryd.prog 13 #[.pointer (some ⟨q, 0, none⟩), .int .i64 id, .int .i64 key, .int .i64 size, .int .i64 memory] w fun e w' => Dgv base w q (poolE P id size memory) (poolS P id key size memory) B e w' := by
  have HP := hid (rpool_any hT (by omega) id)
  cases hx : gt P id with
  | some x =>
    have he : poolE P id size memory = 5 := by rw [poolE, hx]; rfl
    have HX := hid (dgv_no hT 5 _ _ B he (show poolS P id key size memory = P by rw [poolS, he, if_neg (by decide)]) rfl)
    rw [ixI_some hx] at HP
    generalize ix P id = j at *
    have e1 : decide ((0 : Int) ≤ j) = true := decide_eq_true (by omega)
    clear hT hx he
    go_enter Tryd.func13, Tryd.ntmps13
    go_wp2_with fail
    refine HP.out.mono ?_
    rintro e w1 ⟨rfl, rfl⟩
    go_wp2
    go_ret
    exact HX.out
  | none =>
    have he : poolE P id size memory = gvE size 1 memory := by rw [poolE, hx]; rfl
    have HT := hid hT
    have HG := hid hx
    have HE := hid he
    rw [ixI_none hx] at HP
    clear hT hx he
    by_cases h1 : size < 1
    · have e2 : decide (size < 1) = true := decide_eq_true h1
      have hee : poolE P id size memory = 8 := by rw [HE.out, gv8 (.inl h1)]
      have HX := hid (dgv_no HT.out 8 _ _ B hee (show poolS P id key size memory = P by rw [poolS, hee, if_neg (by decide)]) rfl)
      clear hee
      go_enter Tryd.func13, Tryd.ntmps13
      go_wp2_with fail
      refine HP.out.mono ?_
      rintro e w1 ⟨rfl, rfl⟩
      go_wp2
      go_ret
      exact HX.out
    · have e2 : decide (size < 1) = false := decide_eq_false h1
      by_cases h2 : 65536 < size
      · have e3 : decide (65536 < size) = true := decide_eq_true h2
        have hee : poolE P id size memory = 8 := by rw [HE.out, gv8 (.inr h2)]
        have HX := hid (dgv_no HT.out 8 _ _ B hee (show poolS P id key size memory = P by rw [poolS, hee, if_neg (by decide)]) rfl)
        clear hee
        go_enter Tryd.func13, Tryd.ntmps13
        go_wp2_with fail
        refine HP.out.mono ?_
        rintro e w1 ⟨rfl, rfl⟩
        go_wp2
        go_ret
        exact HX.out
      · have e3 : decide (65536 < size) = false := decide_eq_false h2
        by_cases h3 : memory < size
        · have e4 : decide (memory < size) = true := decide_eq_true h3
          have hee : poolE P id size memory = 9 := by rw [HE.out, gv9 (by omega) h3]
          have HX := hid (dgv_no HT.out 9 _ _ B hee (show poolS P id key size memory = P by rw [poolS, hee, if_neg (by decide)]) rfl)
          clear hee
          go_enter Tryd.func13, Tryd.ntmps13
          go_wp2_with fail
          refine HP.out.mono ?_
          rintro e w1 ⟨rfl, rfl⟩
          go_wp2
          go_ret
          exact HX.out
        · have e4 : decide (memory < size) = false := decide_eq_false h3
          obtain ⟨i0, hi, hz0, hz1, hz2⟩ := info_parts infoP
          obtain ⟨pv, bv, hv, hp, hb, _⟩ := HT.out.var
          have c0 : w.cell? ⟨q, 0, none⟩ = some pv := by rw [Lib.cell_of_heap hv]; rfl
          have HV := hid hv
          have HS := hid (src_own hp Tryd.underlying26 (pcs_one P))
          have hq := HT.out.lt
          have HX : Hid (∀ u v, Below w.heap.size w u → u.ownsRow w.heap.size 75 3 v (P.length + 1) (pcs P ++ pcs [(id, (key, size))]) → Dgv base w q (poolE P id size memory) (poolS P id key size memory) B (.returned (.int .i64 (0 : Nat))) (u.setCell ⟨q, 0, none⟩ v)) := fun u v hb o => by
            have hee : poolE P id size memory = 0 := by rw [HE.out, gv0 (by omega) h3]
            have hw : wr P id (key, size) = P ++ [(id, (key, size))] := by rw [wr, HG.out]; rfl
            rw [poolS, hee, if_pos rfl]
            have hok := HT.out.ok.wrp id (key, size) (by simp only; omega)
            rw [hw] at hok ⊢
            rw [← pcs_app] at o
            obtain ⟨r1, r2⟩ := HT.out.putP hb (P' := P ++ [(id, (key, size))]) (by rw [List.length_append]; exact o) hok
            exact ⟨rfl, r1, r2⟩
          clear hv hp hb
          generalize P.length = n at *
          go_enter Tryd.func13, Tryd.ntmps13
          go_wp2_with fail
          refine HP.out.mono ?_
          rintro e w1 ⟨rfl, rfl⟩
          go_wp2_with (at_builtin; first
            | (refine wpList_append_own_src _ rfl (.const (.slice none 0 0)) (.tmp 31) 26 26 rfl w1.heap.size 75 i0 (.agg #[.int .i64 0, .int .i64 0, .int .i64 0]) 3 24 Tryd.underlying26 hi hz0 hz1 hz2 rfl _ 0 [] rfl (World.ownsRow_nil _ _ _ _) _ _ _ rfl HS.out (by simp only [maxLen]; omega) (fits64 (by omega) 24 (by decide)) (Nat.le_refl _) ?_; intro v1 w2 o1 g1; rw [Nat.zero_add, List.nil_append] at o1; have HB2 := hid (below_grown (Below.refl _ w1) g1 (fun k hk => by cases hk)); have HO1 := hid (o1.alloc (.cells #[.int .i64 id, .int .i64 key, .int .i64 size] 75)); have HS2 := hid (srcP w2 (id, (key, size))); have HB3 := hid (HB2.out.alloc HB2.out.size (.cells #[.int .i64 id, .int .i64 key, .int .i64 size] 75)); have HR1 : Hid (∀ k, v1.ownBlock = some k → w1.heap.size ≤ k) := (fun k hk => (o1.lt k hk).1); clear o1 g1)
            | (refine wpList_append_own_src _ rfl (.tmp 32) (.tmp 37) 26 26 rfl w1.heap.size 75 i0 (.agg #[.int .i64 0, .int .i64 0, .int .i64 0]) 3 24 Tryd.underlying26 hi hz0 hz1 hz2 rfl _ _ _ rfl HO1.out _ _ _ rfl HS2.out (by simp only [maxLen]; omega) (fits64 (by omega) 24 (by decide)) HB3.out.size ?_; intro v2 w3 o2 g2; obtain ⟨a2, c2, rfl, -⟩ := row_of o2; have hb4 := below_grown HB3.out g2 (fun k hk => HR1.out k hk); have HY := hid (HX.out _ _ hb4 o2); have HV4 := hid ((kp_of_below hb4 []).var HV.out (by simp)); have c4 : w3.cell? ⟨q, 0, none⟩ = some pv := (by rw [Lib.cell_of_heap HV4.out]; rfl); have f4 := Lib.frozen_of_heap HV4.out 0; clear o2 g2 hb4))
          go_ret
          exact HY.out
end Go.Proofs.YtnfenfleahennaaDoor
