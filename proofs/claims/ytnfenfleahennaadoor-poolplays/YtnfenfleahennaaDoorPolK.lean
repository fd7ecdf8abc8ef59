/- The document's store, IV: DropPool, Forget, DropBuffer. -/
import Derived.Test.YtnfenfleahennaaDoorPolJ
namespace Go.Proofs.YtnfenfleahennaaDoor
open Go Go.RowKit

theorem step_append_own_src {P : Program} {ops : Array Oper} {o : Oper} {a : Act} {w : World} {K : Act → World → Prop} {Q : Exit → Act → World → Prop} {E : Prop}
    (hg : o.guard = none) (s x : Operand) (t tx : TypeId) (hop : o.op = .call { callee := .builtin .append, args := #[s, x], argTypes := #[t, tx] })
    (base : Nat) (e : TypeId) (i : TypeInfo) (z : Value) (size bytes : Nat) (ht : P.underlying t = some (.slice e)) (hi : P.info? e = some i) (hz : i.zero = some z)
    (hsize : i.size = size) (hby : i.bytes = bytes) (hzs : z.cells.size = size)
    (v : Value) (n : Nat) (xs : List Value) (hs : a.eval s = v) (hown : w.ownsRow base e size v n xs)
    (xv : Value) (m : Nat) (news : List Value) (hx : a.eval x = xv) (hsrc : Src P size tx xv m news w)
    (h63 : n + m ≤ maxLen) (hbytes : ∀ old, old < n + m → Builtin.nextslicecap (n + m) old * bytes ≤ 281474976710656) (hbase : base ≤ w.heap.size)
    (h : ∀ v' w', w'.ownsRow base e size v' (n + m) (xs ++ news) → w.grownBy w' v.ownBlock → K (a.put o.dst v') w') :
    if Region.wanted o (yielded ops a.tmps) = true then Oper.wp P o a w K Q else E := by
  have hw : Region.wanted o (yielded ops a.tmps) = true := by simp [Region.wanted, hg]
  rw [if_pos hw]
  obtain ⟨v', w', hr, h2, h3⟩ := run_append_own_src (P := P) w base t tx o.type e i z size bytes ht hi hz hsize hby hzs v n xs hown xv m news hsrc h63 hbytes hbase
  unfold Oper.wp
  simp [execOp, hop, resolve, invoke, builtin, hs, hx, hr, Result.andThen]
  exact h v' w' h2 h3

variable {base : Nat} {w w' : World} {q : Nat} {P : PL} {B : BL}

/-- Where what is cut off ahead begins. -/
def cutA (g m c k : Nat) : Addr := if c = k then ⟨g, 0, none⟩ else ⟨g, k * m, none⟩
theorem cutA_if (g m c k : Nat) : (if c = k then some (⟨g, 0, none⟩ : Addr) else some ⟨g, k * m, none⟩) = some (cutA g m c k) := by
  unfold cutA
  split <;> rfl
theorem src_cut {t e m n k c : Nat} {g : Nat} {xs : List Value} (h : w.ownsRow base e m (.slice (some ⟨g, 0, none⟩) n c) n xs) (ht : Tryd.prog.underlying t = some (.slice e)) (h1 : ∀ u ∈ xs, u.oneCell' = true) (hk : k ≤ n) (hn : n ≤ c) (c' : Nat) : Src Tryd.prog m t (.slice (some (cutA g m c k)) (n - k) c') (n - k) (xs.drop (k * m)) w := by
  unfold cutA
  split
  · have hl := h.1
    obtain rfl : k = n := by omega
    have hd : xs.drop (k * m) = [] := List.drop_eq_nil_of_le (by omega)
    rw [hd, Nat.sub_self]
    exact Src.ofSlice w ht ⟨g, 0, none⟩ 0 c' [] (by simp) (fun j u hu => by simp at hu) (fun u hu => by cases hu)
  · exact src_drop h ht h1 c'

set_option maxRecDepth 100000 in
theorem rdrop_any (hT : Dst base w q P B) (hn : P.length < 999) (id : Int) :
    Calls Tryd.prog 17 #[.pointer (some ⟨q, 0, none⟩), .int .i64 id] w fun e w' => Dgv base w q (dpE P id) (rm P id) B e w' := by
  have HP := hid (rpool_any hT (by omega) id)
  cases hx : gt P id with
  | none =>
    have he : dpE P id = 5 := by rw [dpE, hx]; rfl
    have HX := hid (dgv_no hT 5 _ _ B he (rm_none hx) rfl)
    rw [ixI_none hx] at HP
    clear hT hx he
    go_enter Tryd.func17, Tryd.ntmps17
    go_wp2_with fail
    refine HP.out.mono ?_
    rintro e w1 ⟨rfl, rfl⟩
    go_wp2
    go_ret
    exact HX.out
  | some x =>
    have HT := hid hT
    have HG := hid hx
    obtain ⟨i0, hi, hz0, hz1, hz2⟩ := info_parts infoP
    have hkn := ix_lt hx
    obtain ⟨pv, bv, hv, hp, hb, _⟩ := hT.var
    obtain ⟨g, c, rfl, hnc, hmax⟩ : ∃ g c, pv = .slice (some ⟨g, 0, none⟩) P.length c ∧ P.length ≤ c ∧ c ≤ maxLen := by
      rcases hp.2 with ⟨_, h0⟩ | ⟨g, cap, cur, rfl, _, _, hn, hm, _, _⟩
      · omega
      · exact ⟨g, cap, rfl, hn, hm⟩
    have C0 : Hid (w.cell? ⟨q, 0, none⟩ = some (.slice (some ⟨g, 0, none⟩) P.length c)) := by rw [Hid, Lib.cell_of_heap hv]; rfl
    have HV := hid hv
    have OP := hid hp
    have hq := hT.lt
    have HX : Hid (∀ u v, Below w.heap.size w u → u.ownsRow w.heap.size 75 3 v (ix P id + (P.length - (ix P id + 1))) ((pcs P).take (ix P id * 3) ++ (pcs P).drop ((ix P id + 1) * 3)) → Dgv base w q (dpE P id) (rm P id) B (.returned (.int .i64 (0 : Nat))) (u.setCell ⟨q, 0, none⟩ v)) := fun u v hb o => by
      have hr := rm_ix HT.out.ok.pn HG.out
      have hl : (rm P id).length = ix P id + (P.length - (ix P id + 1)) := by rw [hr, List.length_append, List.length_take, List.length_drop]; omega
      rw [show (pcs P).take (ix P id * 3) = pcs (P.take (ix P id)) from fm_take pcs_len P _, show (pcs P).drop ((ix P id + 1) * 3) = pcs (P.drop (ix P id + 1)) from fm_drop pcs_len P _, ← pcs_app, ← hr, ← hl] at o
      rw [show dpE P id = 0 by rw [dpE, HG.out]; rfl]
      obtain ⟨r1, r2⟩ := HT.out.putP hb o (HT.out.ok.rmp id)
      exact ⟨rfl, r1, r2⟩
    rw [ixI_some hx] at HP
    clear hT hx hv hp hb
    simp only [maxLen] at hmax
    generalize ix P id = j at *
    generalize P.length = n at *
    have e1 : decide ((j : Int) < 0) = false := decide_eq_false (by omega)
    have hjc : j ≤ c := by omega
    have hjn : j + 1 ≤ n := hkn
    have hcut := cutA_if g 3 c (j + 1)
    have hwr : IntKind.i64.wrap ((j : Int) + 1) = (j : Int) + 1 := by rw [IntKind.wrap_i64]; omega
    have hj0 : (0 : Int) ≤ (j : Int) + 1 := by omega
    have hj1 : (j : Int) + 1 ≤ (n : Int) := by omega
    have hj2 : ((j : Int) + 1).toNat = j + 1 := by omega
    go_enter Tryd.func17, Tryd.ntmps17
    go_wp2_with fail
    refine HP.out.mono ?_
    rintro e w1 ⟨rfl, hw1⟩
    subst hw1
    go_wp2_with fail
    have hB : Below w1.heap.size w1 w1.drew := (Below.refl _ _).drew
    have hHeld := trivial
    refine wp_region_held_drew (S := fun _ => True) (by kernel_rfl) hHeld (fun _ => ?_)
    refine wpAnyH_take (i := 0) (v := ?_) rfl (by kernel_rfl) (by kernel_rfl) (by kernel_rfl) (fun _ _ _ h => h) (Or.inl ⟨by kernel_rfl, ?hy0⟩) (by assumption) ?_
    case hy0 => (intro w hSw; (try dsimp only at hSw); go_simp; try with_reducible rfl)
    try simp only [Act.put, List.getElem_toArray, List.getElem_cons_zero, List.setIfInBounds_toArray, List.set_cons_zero, List.set_cons_succ]
    refine wpAnyH_take (i := 1) (v := ?_) rfl (by kernel_rfl) (by kernel_rfl) (by kernel_rfl) (fun _ _ _ h => h) (Or.inl ⟨by kernel_rfl, ?hy1⟩) (by assumption) ?_
    case hy1 => (intro w hSw; (try dsimp only at hSw); go_simp; try with_reducible rfl)
    try simp only [Act.put, List.getElem_toArray, List.getElem_cons_zero, List.getElem_cons_succ, List.setIfInBounds_toArray, List.set_cons_zero, List.set_cons_succ]
    refine wpAnyH_take (i := 2) (v := ?_) rfl (by kernel_rfl) (by kernel_rfl) (by kernel_rfl) (fun _ _ _ h => h) (Or.inl ⟨by kernel_rfl, ?hy2⟩) (by assumption) ?_
    case hy2 => (intro w hSw; (try dsimp only at hSw); go_simp; try with_reducible rfl)
    try simp only [Act.put, List.getElem_toArray, List.getElem_cons_zero, List.getElem_cons_succ, List.setIfInBounds_toArray, List.set_cons_zero, List.set_cons_succ]
    refine wpAnyH_take (i := 3) (v := ?_) rfl (by kernel_rfl) (by kernel_rfl) (by kernel_rfl) (fun _ _ _ h => h) (Or.inl ⟨by kernel_rfl, ?hy3⟩) (by assumption) ?_
    case hy3 => (intro w hSw; (try dsimp only at hSw); go_simp; try with_reducible rfl)
    try simp only [Act.put, List.getElem_toArray, List.getElem_cons_zero, List.getElem_cons_succ, List.setIfInBounds_toArray, List.set_cons_zero, List.set_cons_succ]
    refine wpAnyH_take (i := 5) (v := ?_) rfl (by kernel_rfl) (by kernel_rfl) (by kernel_rfl) (fun _ _ _ h => h) (Or.inl ⟨by kernel_rfl, ?hy5⟩) (by assumption) ?_
    case hy5 => (intro w hSw; (try dsimp only at hSw); go_simp; try with_reducible rfl)
    try simp only [Act.put, List.getElem_toArray, List.getElem_cons_zero, List.getElem_cons_succ, List.setIfInBounds_toArray, List.set_cons_zero, List.set_cons_succ]
    refine wpAnyH_take (i := 8) (v := ?_) rfl (by kernel_rfl) (by kernel_rfl) (by kernel_rfl) (fun _ _ _ h => h) (Or.inl ⟨by kernel_rfl, ?hy8⟩) (by assumption) ?_
    case hy8 => (intro w hSw; (try dsimp only at hSw); go_simp; try with_reducible rfl)
    try simp only [Act.put, List.getElem_toArray, List.getElem_cons_zero, List.getElem_cons_succ, List.setIfInBounds_toArray, List.set_cons_zero, List.set_cons_succ]
    refine wpAnyH_take (i := 9) (v := ?_) rfl (by kernel_rfl) (by kernel_rfl) (by kernel_rfl) (fun _ _ _ h => h) (Or.inl ⟨by kernel_rfl, ?hy9⟩) (by assumption) ?_
    case hy9 => (intro w hSw; (try dsimp only at hSw); go_simp; try with_reducible rfl)
    try simp only [Act.put, List.getElem_toArray, List.getElem_cons_zero, List.getElem_cons_succ, List.setIfInBounds_toArray, List.set_cons_zero, List.set_cons_succ]
    refine wpAnyH_take (i := 10) (v := ?_) rfl (by kernel_rfl) (by kernel_rfl) (by kernel_rfl) (fun _ _ _ h => h) (Or.inl ⟨by kernel_rfl, ?hy10⟩) (by assumption) ?_
    case hy10 => (intro w hSw; (try dsimp only at hSw); go_simp; try with_reducible rfl)
    try simp only [Act.put, List.getElem_toArray, List.getElem_cons_zero, List.getElem_cons_succ, List.setIfInBounds_toArray, List.set_cons_zero, List.set_cons_succ]
    refine wpAnyH_take (i := 12) (v := ?_) rfl (by kernel_rfl) (by kernel_rfl) (by kernel_rfl) (fun _ _ _ h => h) (Or.inl ⟨by kernel_rfl, ?hy12⟩) (by assumption) ?_
    case hy12 => (intro w hSw; (try dsimp only at hSw); go_simp; try with_reducible rfl)
    try simp only [Act.put, List.getElem_toArray, List.getElem_cons_zero, List.getElem_cons_succ, List.setIfInBounds_toArray, List.set_cons_zero, List.set_cons_succ]
    refine wpAnyH_take (i := 13) (v := ?_) rfl (by kernel_rfl) (by kernel_rfl) (by kernel_rfl) (fun _ _ _ h => h) (Or.inl ⟨by kernel_rfl, ?hy13⟩) (by assumption) ?_
    case hy13 => (intro w hSw; (try dsimp only at hSw); go_simp; try with_reducible rfl)
    try simp only [Act.put, List.getElem_toArray, List.getElem_cons_zero, List.getElem_cons_succ, List.setIfInBounds_toArray, List.set_cons_zero, List.set_cons_succ]
    refine wpAnyH_ready (rs := [4, 11]) (by kernel_rfl) (by simp) ?_
    refine AllReadyH.cons rfl (fun K hK => ?_) ?_
    · have c0 := (kp_of_below hB []).cell C0.out (by simp)
      go_simp
      refine hK.out _ _ trivial (fun _ => ?_)
      clear hK K c0
      try simp only [Act.put, List.getElem_toArray, List.getElem_cons_zero, List.getElem_cons_succ, List.setIfInBounds_toArray, List.set_cons_zero, List.set_cons_succ]
      refine wpAnyH_take (i := 6) (v := ?_) rfl (by kernel_rfl) (by kernel_rfl) (by kernel_rfl) (fun _ _ _ h => h) (Or.inl ⟨by kernel_rfl, ?hy6⟩) (by assumption) ?_
      case hy6 => (intro w hSw; (try dsimp only at hSw); go_simp; try with_reducible rfl)
      try simp only [Act.put, List.getElem_toArray, List.getElem_cons_zero, List.getElem_cons_succ, List.setIfInBounds_toArray, List.set_cons_zero, List.set_cons_succ]
      refine wpAnyH_ready (rs := [7, 11]) (by kernel_rfl) (by simp) ?_
      refine AllReadyH.cons rfl (fun K hK => ?_) ?_
      · refine step_append_own_src rfl (.const (.slice none 0 0)) (.tmp 17) 26 26 rfl w1.heap.size 75 i0 (.agg #[.int .i64 0, .int .i64 0, .int .i64 0]) 3 24 Tryd.underlying26 hi hz0 hz1 hz2 rfl _ 0 [] (by simp [Act.eval]) (World.ownsRow_nil _ _ _ _) _ _ _ (by simp [Act.eval]) (src_take (ownsRow_below OP.out hB) Tryd.underlying26 (pcs_one P) (Nat.le_of_lt hkn) c) (by simp only [maxLen]; omega) (fits64 (by omega) 24 (by decide)) hB.size ?_
        intro v1 u1 o1 g1
        rw [Nat.zero_add, List.nil_append] at o1
        have hB := below_grown hB g1 (fun k hk => by cases hk)
        clear g1
        refine hK.out _ _ trivial (fun _ => ?_)
        clear hK K
        try simp only [Act.put, List.getElem_toArray, List.getElem_cons_zero, List.getElem_cons_succ, List.setIfInBounds_toArray, List.set_cons_zero, List.set_cons_succ]
        refine wpAnyH_ready (rs := [11]) (by kernel_rfl) (by simp) ?_
        refine AllReadyH.cons rfl (fun K hK => ?_) AllReadyH.nil
        have c0 := (kp_of_below hB []).cell C0.out (by simp)
        go_simp
        refine hK.out _ _ trivial (fun _ => ?_)
        clear hK K c0
        try simp only [Act.put, List.getElem_toArray, List.getElem_cons_zero, List.getElem_cons_succ, List.setIfInBounds_toArray, List.set_cons_zero, List.set_cons_succ]
        refine wpAnyH_take (i := 14) (v := ?_) rfl (by kernel_rfl) (by kernel_rfl) (by kernel_rfl) (fun _ _ _ h => h) (Or.inl ⟨by kernel_rfl, ?hy14⟩) (by assumption) ?_
        case hy14 => (intro w hSw; (try dsimp only at hSw); go_simp; try with_reducible rfl)
        try simp only [Act.put, List.getElem_toArray, List.getElem_cons_zero, List.getElem_cons_succ, List.setIfInBounds_toArray, List.set_cons_zero, List.set_cons_succ]
        refine wpAnyH_ready (rs := [15]) (by kernel_rfl) (by simp) ?_
        refine AllReadyH.cons rfl (fun K hK => ?_) AllReadyH.nil
        refine step_append_own_src rfl (.tmp 18) (.tmp 25) 26 26 rfl w1.heap.size 75 i0 (.agg #[.int .i64 0, .int .i64 0, .int .i64 0]) 3 24 Tryd.underlying26 hi hz0 hz1 hz2 rfl _ _ _ (by simp [Act.eval]) o1 _ _ _ (by simp [Act.eval]) (src_cut (ownsRow_below OP.out hB) Tryd.underlying26 (pcs_one P) (k := j + 1) hkn hnc (c - (j + 1))) (by simp only [maxLen]; omega) (fits64 (by omega) 24 (by decide)) hB.size ?_
        intro v2 u2 o2 g2
        obtain ⟨a2, c2, rfl, -⟩ := row_of o2
        have hB := below_grown hB g2 (fun k hk => (o1.lt k hk).1)
        clear g2
        refine hK.out _ _ trivial (fun _ => ?_)
        clear hK K
        try simp only [Act.put, List.getElem_toArray, List.getElem_cons_zero, List.getElem_cons_succ, List.setIfInBounds_toArray, List.set_cons_zero, List.set_cons_succ]
        refine wpAnyH_take (i := 16) (v := ?_) rfl (by kernel_rfl) (by kernel_rfl) (by kernel_rfl) (fun _ _ _ h => h) (Or.inl ⟨by kernel_rfl, ?hy16⟩) (by assumption) ?_
        case hy16 => (intro w hSw; (try dsimp only at hSw); go_simp; try with_reducible rfl)
        try simp only [Act.put, List.getElem_toArray, List.getElem_cons_zero, List.getElem_cons_succ, List.setIfInBounds_toArray, List.set_cons_zero, List.set_cons_succ]
        refine wpAnyH_take (i := 17) (v := ?_) rfl (by kernel_rfl) (by kernel_rfl) (by kernel_rfl) (fun _ _ _ h => h) (Or.inl ⟨by kernel_rfl, ?hy17⟩) (by assumption) ?_
        case hy17 => (intro w hSw; (try dsimp only at hSw); go_simp; try with_reducible rfl)
        try simp only [Act.put, List.getElem_toArray, List.getElem_cons_zero, List.getElem_cons_succ, List.setIfInBounds_toArray, List.set_cons_zero, List.set_cons_succ]
        refine wpAnyH_ready (rs := [18]) (by kernel_rfl) (by simp) ?_
        refine AllReadyH.cons rfl (fun K hK => ?_) AllReadyH.nil
        have HV4 := (kp_of_below hB []).var HV.out (by simp)
        have HY := hid (HX.out _ _ hB o2)
        have c4 : u2.cell? ⟨q, 0, none⟩ = some (.slice (some ⟨g, 0, none⟩) n c) := (by rw [Lib.cell_of_heap HV4]; rfl)
        have f4 := Lib.frozen_of_heap HV4 0
        go_simp
        refine hK.out _ _ trivial (fun _ => ?_)
        clear hK K c4 f4 HV4
        try simp only [Act.put, List.getElem_toArray, List.getElem_cons_zero, List.getElem_cons_succ, List.setIfInBounds_toArray, List.set_cons_zero, List.set_cons_succ]
        refine wpAnyH_done (by kernel_rfl) ?_ _
        go_wp2
        go_ret
        exact HY.out
      refine AllReadyH.cons rfl (fun K hK => ?_) ?_
      · have c0 := (kp_of_below hB []).cell C0.out (by simp)
        go_simp
        refine hK.out _ _ trivial (fun _ => ?_)
        clear hK K c0
        try simp only [Act.put, List.getElem_toArray, List.getElem_cons_zero, List.getElem_cons_succ, List.setIfInBounds_toArray, List.set_cons_zero, List.set_cons_succ]
        refine wpAnyH_take (i := 14) (v := ?_) rfl (by kernel_rfl) (by kernel_rfl) (by kernel_rfl) (fun _ _ _ h => h) (Or.inl ⟨by kernel_rfl, ?hy14⟩) (by assumption) ?_
        case hy14 => (intro w hSw; (try dsimp only at hSw); go_simp; try with_reducible rfl)
        try simp only [Act.put, List.getElem_toArray, List.getElem_cons_zero, List.getElem_cons_succ, List.setIfInBounds_toArray, List.set_cons_zero, List.set_cons_succ]
        refine wpAnyH_ready (rs := [7]) (by kernel_rfl) (by simp) ?_
        refine AllReadyH.cons rfl (fun K hK => ?_) AllReadyH.nil
        refine step_append_own_src rfl (.const (.slice none 0 0)) (.tmp 17) 26 26 rfl w1.heap.size 75 i0 (.agg #[.int .i64 0, .int .i64 0, .int .i64 0]) 3 24 Tryd.underlying26 hi hz0 hz1 hz2 rfl _ 0 [] (by simp [Act.eval]) (World.ownsRow_nil _ _ _ _) _ _ _ (by simp [Act.eval]) (src_take (ownsRow_below OP.out hB) Tryd.underlying26 (pcs_one P) (Nat.le_of_lt hkn) c) (by simp only [maxLen]; omega) (fits64 (by omega) 24 (by decide)) hB.size ?_
        intro v1 u1 o1 g1
        rw [Nat.zero_add, List.nil_append] at o1
        have hB := below_grown hB g1 (fun k hk => by cases hk)
        clear g1
        refine hK.out _ _ trivial (fun _ => ?_)
        clear hK K
        try simp only [Act.put, List.getElem_toArray, List.getElem_cons_zero, List.getElem_cons_succ, List.setIfInBounds_toArray, List.set_cons_zero, List.set_cons_succ]
        refine wpAnyH_ready (rs := [15]) (by kernel_rfl) (by simp) ?_
        refine AllReadyH.cons rfl (fun K hK => ?_) AllReadyH.nil
        refine step_append_own_src rfl (.tmp 18) (.tmp 25) 26 26 rfl w1.heap.size 75 i0 (.agg #[.int .i64 0, .int .i64 0, .int .i64 0]) 3 24 Tryd.underlying26 hi hz0 hz1 hz2 rfl _ _ _ (by simp [Act.eval]) o1 _ _ _ (by simp [Act.eval]) (src_cut (ownsRow_below OP.out hB) Tryd.underlying26 (pcs_one P) (k := j + 1) hkn hnc (c - (j + 1))) (by simp only [maxLen]; omega) (fits64 (by omega) 24 (by decide)) hB.size ?_
        intro v2 u2 o2 g2
        obtain ⟨a2, c2, rfl, -⟩ := row_of o2
        have hB := below_grown hB g2 (fun k hk => (o1.lt k hk).1)
        clear g2
        refine hK.out _ _ trivial (fun _ => ?_)
        clear hK K
        try simp only [Act.put, List.getElem_toArray, List.getElem_cons_zero, List.getElem_cons_succ, List.setIfInBounds_toArray, List.set_cons_zero, List.set_cons_succ]
        refine wpAnyH_take (i := 16) (v := ?_) rfl (by kernel_rfl) (by kernel_rfl) (by kernel_rfl) (fun _ _ _ h => h) (Or.inl ⟨by kernel_rfl, ?hy16⟩) (by assumption) ?_
        case hy16 => (intro w hSw; (try dsimp only at hSw); go_simp; try with_reducible rfl)
        try simp only [Act.put, List.getElem_toArray, List.getElem_cons_zero, List.getElem_cons_succ, List.setIfInBounds_toArray, List.set_cons_zero, List.set_cons_succ]
        refine wpAnyH_take (i := 17) (v := ?_) rfl (by kernel_rfl) (by kernel_rfl) (by kernel_rfl) (fun _ _ _ h => h) (Or.inl ⟨by kernel_rfl, ?hy17⟩) (by assumption) ?_
        case hy17 => (intro w hSw; (try dsimp only at hSw); go_simp; try with_reducible rfl)
        try simp only [Act.put, List.getElem_toArray, List.getElem_cons_zero, List.getElem_cons_succ, List.setIfInBounds_toArray, List.set_cons_zero, List.set_cons_succ]
        refine wpAnyH_ready (rs := [18]) (by kernel_rfl) (by simp) ?_
        refine AllReadyH.cons rfl (fun K hK => ?_) AllReadyH.nil
        have HV4 := (kp_of_below hB []).var HV.out (by simp)
        have HY := hid (HX.out _ _ hB o2)
        have c4 : u2.cell? ⟨q, 0, none⟩ = some (.slice (some ⟨g, 0, none⟩) n c) := (by rw [Lib.cell_of_heap HV4]; rfl)
        have f4 := Lib.frozen_of_heap HV4 0
        go_simp
        refine hK.out _ _ trivial (fun _ => ?_)
        clear hK K c4 f4 HV4
        try simp only [Act.put, List.getElem_toArray, List.getElem_cons_zero, List.getElem_cons_succ, List.setIfInBounds_toArray, List.set_cons_zero, List.set_cons_succ]
        refine wpAnyH_done (by kernel_rfl) ?_ _
        go_wp2
        go_ret
        exact HY.out
      exact AllReadyH.nil
    refine AllReadyH.cons rfl (fun K hK => ?_) ?_
    · have c0 := (kp_of_below hB []).cell C0.out (by simp)
      go_simp
      refine hK.out _ _ trivial (fun _ => ?_)
      clear hK K c0
      try simp only [Act.put, List.getElem_toArray, List.getElem_cons_zero, List.getElem_cons_succ, List.setIfInBounds_toArray, List.set_cons_zero, List.set_cons_succ]
      refine wpAnyH_take (i := 14) (v := ?_) rfl (by kernel_rfl) (by kernel_rfl) (by kernel_rfl) (fun _ _ _ h => h) (Or.inl ⟨by kernel_rfl, ?hy14⟩) (by assumption) ?_
      case hy14 => (intro w hSw; (try dsimp only at hSw); go_simp; try with_reducible rfl)
      try simp only [Act.put, List.getElem_toArray, List.getElem_cons_zero, List.getElem_cons_succ, List.setIfInBounds_toArray, List.set_cons_zero, List.set_cons_succ]
      refine wpAnyH_ready (rs := [4]) (by kernel_rfl) (by simp) ?_
      refine AllReadyH.cons rfl (fun K hK => ?_) AllReadyH.nil
      have c0 := (kp_of_below hB []).cell C0.out (by simp)
      go_simp
      refine hK.out _ _ trivial (fun _ => ?_)
      clear hK K c0
      try simp only [Act.put, List.getElem_toArray, List.getElem_cons_zero, List.getElem_cons_succ, List.setIfInBounds_toArray, List.set_cons_zero, List.set_cons_succ]
      refine wpAnyH_take (i := 6) (v := ?_) rfl (by kernel_rfl) (by kernel_rfl) (by kernel_rfl) (fun _ _ _ h => h) (Or.inl ⟨by kernel_rfl, ?hy6⟩) (by assumption) ?_
      case hy6 => (intro w hSw; (try dsimp only at hSw); go_simp; try with_reducible rfl)
      try simp only [Act.put, List.getElem_toArray, List.getElem_cons_zero, List.getElem_cons_succ, List.setIfInBounds_toArray, List.set_cons_zero, List.set_cons_succ]
      refine wpAnyH_ready (rs := [7]) (by kernel_rfl) (by simp) ?_
      refine AllReadyH.cons rfl (fun K hK => ?_) AllReadyH.nil
      refine step_append_own_src rfl (.const (.slice none 0 0)) (.tmp 17) 26 26 rfl w1.heap.size 75 i0 (.agg #[.int .i64 0, .int .i64 0, .int .i64 0]) 3 24 Tryd.underlying26 hi hz0 hz1 hz2 rfl _ 0 [] (by simp [Act.eval]) (World.ownsRow_nil _ _ _ _) _ _ _ (by simp [Act.eval]) (src_take (ownsRow_below OP.out hB) Tryd.underlying26 (pcs_one P) (Nat.le_of_lt hkn) c) (by simp only [maxLen]; omega) (fits64 (by omega) 24 (by decide)) hB.size ?_
      intro v1 u1 o1 g1
      rw [Nat.zero_add, List.nil_append] at o1
      have hB := below_grown hB g1 (fun k hk => by cases hk)
      clear g1
      refine hK.out _ _ trivial (fun _ => ?_)
      clear hK K
      try simp only [Act.put, List.getElem_toArray, List.getElem_cons_zero, List.getElem_cons_succ, List.setIfInBounds_toArray, List.set_cons_zero, List.set_cons_succ]
      refine wpAnyH_ready (rs := [15]) (by kernel_rfl) (by simp) ?_
      refine AllReadyH.cons rfl (fun K hK => ?_) AllReadyH.nil
      refine step_append_own_src rfl (.tmp 18) (.tmp 25) 26 26 rfl w1.heap.size 75 i0 (.agg #[.int .i64 0, .int .i64 0, .int .i64 0]) 3 24 Tryd.underlying26 hi hz0 hz1 hz2 rfl _ _ _ (by simp [Act.eval]) o1 _ _ _ (by simp [Act.eval]) (src_cut (ownsRow_below OP.out hB) Tryd.underlying26 (pcs_one P) (k := j + 1) hkn hnc (c - (j + 1))) (by simp only [maxLen]; omega) (fits64 (by omega) 24 (by decide)) hB.size ?_
      intro v2 u2 o2 g2
      obtain ⟨a2, c2, rfl, -⟩ := row_of o2
      have hB := below_grown hB g2 (fun k hk => (o1.lt k hk).1)
      clear g2
      refine hK.out _ _ trivial (fun _ => ?_)
      clear hK K
      try simp only [Act.put, List.getElem_toArray, List.getElem_cons_zero, List.getElem_cons_succ, List.setIfInBounds_toArray, List.set_cons_zero, List.set_cons_succ]
      refine wpAnyH_take (i := 16) (v := ?_) rfl (by kernel_rfl) (by kernel_rfl) (by kernel_rfl) (fun _ _ _ h => h) (Or.inl ⟨by kernel_rfl, ?hy16⟩) (by assumption) ?_
      case hy16 => (intro w hSw; (try dsimp only at hSw); go_simp; try with_reducible rfl)
      try simp only [Act.put, List.getElem_toArray, List.getElem_cons_zero, List.getElem_cons_succ, List.setIfInBounds_toArray, List.set_cons_zero, List.set_cons_succ]
      refine wpAnyH_take (i := 17) (v := ?_) rfl (by kernel_rfl) (by kernel_rfl) (by kernel_rfl) (fun _ _ _ h => h) (Or.inl ⟨by kernel_rfl, ?hy17⟩) (by assumption) ?_
      case hy17 => (intro w hSw; (try dsimp only at hSw); go_simp; try with_reducible rfl)
      try simp only [Act.put, List.getElem_toArray, List.getElem_cons_zero, List.getElem_cons_succ, List.setIfInBounds_toArray, List.set_cons_zero, List.set_cons_succ]
      refine wpAnyH_ready (rs := [18]) (by kernel_rfl) (by simp) ?_
      refine AllReadyH.cons rfl (fun K hK => ?_) AllReadyH.nil
      have HV4 := (kp_of_below hB []).var HV.out (by simp)
      have HY := hid (HX.out _ _ hB o2)
      have c4 : u2.cell? ⟨q, 0, none⟩ = some (.slice (some ⟨g, 0, none⟩) n c) := (by rw [Lib.cell_of_heap HV4]; rfl)
      have f4 := Lib.frozen_of_heap HV4 0
      go_simp
      refine hK.out _ _ trivial (fun _ => ?_)
      clear hK K c4 f4 HV4
      try simp only [Act.put, List.getElem_toArray, List.getElem_cons_zero, List.getElem_cons_succ, List.setIfInBounds_toArray, List.set_cons_zero, List.set_cons_succ]
      refine wpAnyH_done (by kernel_rfl) ?_ _
      go_wp2
      go_ret
      exact HY.out
    exact AllReadyH.nil

/-- What the document's Forget answers. -/
def Dgf (base : Nat) (w : World) (q : Nat) (P : PL) (B : BL) (e : Ending) (w' : World) : Prop :=
  e = .returned undef ∧ Dst base w' q P B ∧ Dfb base q w w'

set_option maxRecDepth 100000 in
theorem rforget_any (hT : Dst base w q P B) (hn : B.length < 999) (id : Int) :
    Calls Tryd.prog 21 #[.pointer (some ⟨q, 0, none⟩), .int .i64 id] w fun e w' => Dgf base w q P (rm B id) e w' := by
  have HP := hid (rbuffer_any hT (by omega) id)
  cases hx : gt B id with
  | none =>
    have HX : Hid (Dgf base w q P (rm B id) (.returned undef) w) := by rw [Hid, rm_none hx]; exact ⟨rfl, hT, Dfb.refl _ _ _⟩
    rw [ixI_none hx] at HP
    clear hT hx
    go_enter Tryd.func21, Tryd.ntmps21
    go_wp2_with fail
    refine HP.out.mono ?_
    rintro e w1 ⟨rfl, rfl⟩
    go_wp2
    go_end0
    exact HX.out
  | some x =>
    have HT := hid hT
    have HG := hid hx
    obtain ⟨i0, hi, hz0, hz1, hz2⟩ := info_parts infoB
    have hkn := ix_lt hx
    obtain ⟨pv, bv, hv, hp, hb, _⟩ := hT.var
    obtain ⟨g, c, rfl, hnc, hmax⟩ : ∃ g c, bv = .slice (some ⟨g, 0, none⟩) B.length c ∧ B.length ≤ c ∧ c ≤ maxLen := by
      rcases hb.2 with ⟨_, h0⟩ | ⟨g, cap, cur, rfl, _, _, hn, hm, _, _⟩
      · omega
      · exact ⟨g, cap, rfl, hn, hm⟩
    have C0 : Hid (w.cell? ⟨q, 1, none⟩ = some (.slice (some ⟨g, 0, none⟩) B.length c)) := by rw [Hid, Lib.cell_of_heap hv]; rfl
    have HV := hid hv
    have OP := hid hb
    have hq := hT.lt
    have HX : Hid (∀ u v, Below w.heap.size w u → u.ownsRow w.heap.size 79 8 v (ix B id + (B.length - (ix B id + 1))) ((bcs B).take (ix B id * 8) ++ (bcs B).drop ((ix B id + 1) * 8)) → Dgf base w q P (rm B id) (.returned undef) (u.setCell ⟨q, 1, none⟩ v)) := fun u v hb o => by
      have hr := rm_ix HT.out.ok.bn HG.out
      have hl : (rm B id).length = ix B id + (B.length - (ix B id + 1)) := by rw [hr, List.length_append, List.length_take, List.length_drop]; omega
      rw [show (bcs B).take (ix B id * 8) = bcs (B.take (ix B id)) from fm_take bcs_len B _, show (bcs B).drop ((ix B id + 1) * 8) = bcs (B.drop (ix B id + 1)) from fm_drop bcs_len B _, ← bcs_app, ← hr, ← hl] at o
      obtain ⟨r1, r2⟩ := HT.out.putB hb o (HT.out.ok.rmb id)
      exact ⟨rfl, r1, r2⟩
    rw [ixI_some hx] at HP
    clear hT hx hv hp hb
    simp only [maxLen] at hmax
    generalize ix B id = j at *
    generalize B.length = n at *
    have e1 : decide ((0 : Int) ≤ j) = true := decide_eq_true (by omega)
    have hjc : j ≤ c := by omega
    have hjn : j + 1 ≤ n := hkn
    have hcut := cutA_if g 8 c (j + 1)
    have hwr : IntKind.i64.wrap ((j : Int) + 1) = (j : Int) + 1 := by rw [IntKind.wrap_i64]; omega
    have hj0 : (0 : Int) ≤ (j : Int) + 1 := by omega
    have hj1 : (j : Int) + 1 ≤ (n : Int) := by omega
    have hj2 : ((j : Int) + 1).toNat = j + 1 := by omega
    go_enter Tryd.func21, Tryd.ntmps21
    go_wp2_with fail
    refine HP.out.mono ?_
    rintro e w1 ⟨rfl, hw1⟩
    subst hw1
    go_wp2_with fail
    have hB : Below w1.heap.size w1 w1.drew := (Below.refl _ _).drew
    have hHeld := trivial
    refine wp_region_held_drew (S := fun _ => True) (by kernel_rfl) hHeld (fun _ => ?_)
    refine wpAnyH_take (i := 0) (v := ?_) rfl (by kernel_rfl) (by kernel_rfl) (by kernel_rfl) (fun _ _ _ h => h) (Or.inl ⟨by kernel_rfl, ?hy0⟩) (by assumption) ?_
    case hy0 => (intro w hSw; (try dsimp only at hSw); go_simp; try with_reducible rfl)
    try simp only [Act.put, List.getElem_toArray, List.getElem_cons_zero, List.setIfInBounds_toArray, List.set_cons_zero, List.set_cons_succ]
    refine wpAnyH_take (i := 1) (v := ?_) rfl (by kernel_rfl) (by kernel_rfl) (by kernel_rfl) (fun _ _ _ h => h) (Or.inl ⟨by kernel_rfl, ?hy1⟩) (by assumption) ?_
    case hy1 => (intro w hSw; (try dsimp only at hSw); go_simp; try with_reducible rfl)
    try simp only [Act.put, List.getElem_toArray, List.getElem_cons_zero, List.getElem_cons_succ, List.setIfInBounds_toArray, List.set_cons_zero, List.set_cons_succ]
    refine wpAnyH_take (i := 2) (v := ?_) rfl (by kernel_rfl) (by kernel_rfl) (by kernel_rfl) (fun _ _ _ h => h) (Or.inl ⟨by kernel_rfl, ?hy2⟩) (by assumption) ?_
    case hy2 => (intro w hSw; (try dsimp only at hSw); go_simp; try with_reducible rfl)
    try simp only [Act.put, List.getElem_toArray, List.getElem_cons_zero, List.getElem_cons_succ, List.setIfInBounds_toArray, List.set_cons_zero, List.set_cons_succ]
    refine wpAnyH_take (i := 3) (v := ?_) rfl (by kernel_rfl) (by kernel_rfl) (by kernel_rfl) (fun _ _ _ h => h) (Or.inl ⟨by kernel_rfl, ?hy3⟩) (by assumption) ?_
    case hy3 => (intro w hSw; (try dsimp only at hSw); go_simp; try with_reducible rfl)
    try simp only [Act.put, List.getElem_toArray, List.getElem_cons_zero, List.getElem_cons_succ, List.setIfInBounds_toArray, List.set_cons_zero, List.set_cons_succ]
    refine wpAnyH_take (i := 5) (v := ?_) rfl (by kernel_rfl) (by kernel_rfl) (by kernel_rfl) (fun _ _ _ h => h) (Or.inl ⟨by kernel_rfl, ?hy5⟩) (by assumption) ?_
    case hy5 => (intro w hSw; (try dsimp only at hSw); go_simp; try with_reducible rfl)
    try simp only [Act.put, List.getElem_toArray, List.getElem_cons_zero, List.getElem_cons_succ, List.setIfInBounds_toArray, List.set_cons_zero, List.set_cons_succ]
    refine wpAnyH_take (i := 8) (v := ?_) rfl (by kernel_rfl) (by kernel_rfl) (by kernel_rfl) (fun _ _ _ h => h) (Or.inl ⟨by kernel_rfl, ?hy8⟩) (by assumption) ?_
    case hy8 => (intro w hSw; (try dsimp only at hSw); go_simp; try with_reducible rfl)
    try simp only [Act.put, List.getElem_toArray, List.getElem_cons_zero, List.getElem_cons_succ, List.setIfInBounds_toArray, List.set_cons_zero, List.set_cons_succ]
    refine wpAnyH_take (i := 9) (v := ?_) rfl (by kernel_rfl) (by kernel_rfl) (by kernel_rfl) (fun _ _ _ h => h) (Or.inl ⟨by kernel_rfl, ?hy9⟩) (by assumption) ?_
    case hy9 => (intro w hSw; (try dsimp only at hSw); go_simp; try with_reducible rfl)
    try simp only [Act.put, List.getElem_toArray, List.getElem_cons_zero, List.getElem_cons_succ, List.setIfInBounds_toArray, List.set_cons_zero, List.set_cons_succ]
    refine wpAnyH_take (i := 10) (v := ?_) rfl (by kernel_rfl) (by kernel_rfl) (by kernel_rfl) (fun _ _ _ h => h) (Or.inl ⟨by kernel_rfl, ?hy10⟩) (by assumption) ?_
    case hy10 => (intro w hSw; (try dsimp only at hSw); go_simp; try with_reducible rfl)
    try simp only [Act.put, List.getElem_toArray, List.getElem_cons_zero, List.getElem_cons_succ, List.setIfInBounds_toArray, List.set_cons_zero, List.set_cons_succ]
    refine wpAnyH_take (i := 12) (v := ?_) rfl (by kernel_rfl) (by kernel_rfl) (by kernel_rfl) (fun _ _ _ h => h) (Or.inl ⟨by kernel_rfl, ?hy12⟩) (by assumption) ?_
    case hy12 => (intro w hSw; (try dsimp only at hSw); go_simp; try with_reducible rfl)
    try simp only [Act.put, List.getElem_toArray, List.getElem_cons_zero, List.getElem_cons_succ, List.setIfInBounds_toArray, List.set_cons_zero, List.set_cons_succ]
    refine wpAnyH_take (i := 13) (v := ?_) rfl (by kernel_rfl) (by kernel_rfl) (by kernel_rfl) (fun _ _ _ h => h) (Or.inl ⟨by kernel_rfl, ?hy13⟩) (by assumption) ?_
    case hy13 => (intro w hSw; (try dsimp only at hSw); go_simp; try with_reducible rfl)
    try simp only [Act.put, List.getElem_toArray, List.getElem_cons_zero, List.getElem_cons_succ, List.setIfInBounds_toArray, List.set_cons_zero, List.set_cons_succ]
    refine wpAnyH_ready (rs := [4, 11]) (by kernel_rfl) (by simp) ?_
    refine AllReadyH.cons rfl (fun K hK => ?_) ?_
    · have c0 := (kp_of_below hB []).cell C0.out (by simp)
      go_simp
      refine hK.out _ _ trivial (fun _ => ?_)
      clear hK K c0
      try simp only [Act.put, List.getElem_toArray, List.getElem_cons_zero, List.getElem_cons_succ, List.setIfInBounds_toArray, List.set_cons_zero, List.set_cons_succ]
      refine wpAnyH_take (i := 6) (v := ?_) rfl (by kernel_rfl) (by kernel_rfl) (by kernel_rfl) (fun _ _ _ h => h) (Or.inl ⟨by kernel_rfl, ?hy6⟩) (by assumption) ?_
      case hy6 => (intro w hSw; (try dsimp only at hSw); go_simp; try with_reducible rfl)
      try simp only [Act.put, List.getElem_toArray, List.getElem_cons_zero, List.getElem_cons_succ, List.setIfInBounds_toArray, List.set_cons_zero, List.set_cons_succ]
      refine wpAnyH_ready (rs := [7, 11]) (by kernel_rfl) (by simp) ?_
      refine AllReadyH.cons rfl (fun K hK => ?_) ?_
      · refine step_append_own_src rfl (.const (.slice none 0 0)) (.tmp 16) 27 27 rfl w1.heap.size 79 i0 (.agg #[.int .i64 0, .int .i64 0, .int .i64 0, .int .i64 0, .int .i64 0, .int .i64 0, .int .i64 0, .bool false]) 8 64 Tryd.underlying27 hi hz0 hz1 hz2 rfl _ 0 [] (by simp [Act.eval]) (World.ownsRow_nil _ _ _ _) _ _ _ (by simp [Act.eval]) (src_take (ownsRow_below OP.out hB) Tryd.underlying27 (bcs_one B) (Nat.le_of_lt hkn) c) (by simp only [maxLen]; omega) (fits64 (by omega) 64 (by decide)) hB.size ?_
        intro v1 u1 o1 g1
        rw [Nat.zero_add, List.nil_append] at o1
        have hB := below_grown hB g1 (fun k hk => by cases hk)
        clear g1
        refine hK.out _ _ trivial (fun _ => ?_)
        clear hK K
        try simp only [Act.put, List.getElem_toArray, List.getElem_cons_zero, List.getElem_cons_succ, List.setIfInBounds_toArray, List.set_cons_zero, List.set_cons_succ]
        refine wpAnyH_ready (rs := [11]) (by kernel_rfl) (by simp) ?_
        refine AllReadyH.cons rfl (fun K hK => ?_) AllReadyH.nil
        have c0 := (kp_of_below hB []).cell C0.out (by simp)
        go_simp
        refine hK.out _ _ trivial (fun _ => ?_)
        clear hK K c0
        try simp only [Act.put, List.getElem_toArray, List.getElem_cons_zero, List.getElem_cons_succ, List.setIfInBounds_toArray, List.set_cons_zero, List.set_cons_succ]
        refine wpAnyH_take (i := 14) (v := ?_) rfl (by kernel_rfl) (by kernel_rfl) (by kernel_rfl) (fun _ _ _ h => h) (Or.inl ⟨by kernel_rfl, ?hy14⟩) (by assumption) ?_
        case hy14 => (intro w hSw; (try dsimp only at hSw); go_simp; try with_reducible rfl)
        try simp only [Act.put, List.getElem_toArray, List.getElem_cons_zero, List.getElem_cons_succ, List.setIfInBounds_toArray, List.set_cons_zero, List.set_cons_succ]
        refine wpAnyH_ready (rs := [15]) (by kernel_rfl) (by simp) ?_
        refine AllReadyH.cons rfl (fun K hK => ?_) AllReadyH.nil
        refine step_append_own_src rfl (.tmp 17) (.tmp 24) 27 27 rfl w1.heap.size 79 i0 (.agg #[.int .i64 0, .int .i64 0, .int .i64 0, .int .i64 0, .int .i64 0, .int .i64 0, .int .i64 0, .bool false]) 8 64 Tryd.underlying27 hi hz0 hz1 hz2 rfl _ _ _ (by simp [Act.eval]) o1 _ _ _ (by simp [Act.eval]) (src_cut (ownsRow_below OP.out hB) Tryd.underlying27 (bcs_one B) (k := j + 1) hkn hnc (c - (j + 1))) (by simp only [maxLen]; omega) (fits64 (by omega) 64 (by decide)) hB.size ?_
        intro v2 u2 o2 g2
        obtain ⟨a2, c2, rfl, -⟩ := row_of o2
        have hB := below_grown hB g2 (fun k hk => (o1.lt k hk).1)
        clear g2
        refine hK.out _ _ trivial (fun _ => ?_)
        clear hK K
        try simp only [Act.put, List.getElem_toArray, List.getElem_cons_zero, List.getElem_cons_succ, List.setIfInBounds_toArray, List.set_cons_zero, List.set_cons_succ]
        refine wpAnyH_take (i := 16) (v := ?_) rfl (by kernel_rfl) (by kernel_rfl) (by kernel_rfl) (fun _ _ _ h => h) (Or.inl ⟨by kernel_rfl, ?hy16⟩) (by assumption) ?_
        case hy16 => (intro w hSw; (try dsimp only at hSw); go_simp; try with_reducible rfl)
        try simp only [Act.put, List.getElem_toArray, List.getElem_cons_zero, List.getElem_cons_succ, List.setIfInBounds_toArray, List.set_cons_zero, List.set_cons_succ]
        refine wpAnyH_take (i := 17) (v := ?_) rfl (by kernel_rfl) (by kernel_rfl) (by kernel_rfl) (fun _ _ _ h => h) (Or.inl ⟨by kernel_rfl, ?hy17⟩) (by assumption) ?_
        case hy17 => (intro w hSw; (try dsimp only at hSw); go_simp; try with_reducible rfl)
        try simp only [Act.put, List.getElem_toArray, List.getElem_cons_zero, List.getElem_cons_succ, List.setIfInBounds_toArray, List.set_cons_zero, List.set_cons_succ]
        refine wpAnyH_ready (rs := [18]) (by kernel_rfl) (by simp) ?_
        refine AllReadyH.cons rfl (fun K hK => ?_) AllReadyH.nil
        have HV4 := (kp_of_below hB []).var HV.out (by simp)
        have HY := hid (HX.out _ _ hB o2)
        have c4 : u2.cell? ⟨q, 1, none⟩ = some (.slice (some ⟨g, 0, none⟩) n c) := (by rw [Lib.cell_of_heap HV4]; rfl)
        have f4 := Lib.frozen_of_heap HV4 1
        go_simp
        refine hK.out _ _ trivial (fun _ => ?_)
        clear hK K c4 f4 HV4
        try simp only [Act.put, List.getElem_toArray, List.getElem_cons_zero, List.getElem_cons_succ, List.setIfInBounds_toArray, List.set_cons_zero, List.set_cons_succ]
        refine wpAnyH_done (by kernel_rfl) ?_ _
        go_wp2
        go_end0
        exact HY.out
      refine AllReadyH.cons rfl (fun K hK => ?_) ?_
      · have c0 := (kp_of_below hB []).cell C0.out (by simp)
        go_simp
        refine hK.out _ _ trivial (fun _ => ?_)
        clear hK K c0
        try simp only [Act.put, List.getElem_toArray, List.getElem_cons_zero, List.getElem_cons_succ, List.setIfInBounds_toArray, List.set_cons_zero, List.set_cons_succ]
        refine wpAnyH_take (i := 14) (v := ?_) rfl (by kernel_rfl) (by kernel_rfl) (by kernel_rfl) (fun _ _ _ h => h) (Or.inl ⟨by kernel_rfl, ?hy14⟩) (by assumption) ?_
        case hy14 => (intro w hSw; (try dsimp only at hSw); go_simp; try with_reducible rfl)
        try simp only [Act.put, List.getElem_toArray, List.getElem_cons_zero, List.getElem_cons_succ, List.setIfInBounds_toArray, List.set_cons_zero, List.set_cons_succ]
        refine wpAnyH_ready (rs := [7]) (by kernel_rfl) (by simp) ?_
        refine AllReadyH.cons rfl (fun K hK => ?_) AllReadyH.nil
        refine step_append_own_src rfl (.const (.slice none 0 0)) (.tmp 16) 27 27 rfl w1.heap.size 79 i0 (.agg #[.int .i64 0, .int .i64 0, .int .i64 0, .int .i64 0, .int .i64 0, .int .i64 0, .int .i64 0, .bool false]) 8 64 Tryd.underlying27 hi hz0 hz1 hz2 rfl _ 0 [] (by simp [Act.eval]) (World.ownsRow_nil _ _ _ _) _ _ _ (by simp [Act.eval]) (src_take (ownsRow_below OP.out hB) Tryd.underlying27 (bcs_one B) (Nat.le_of_lt hkn) c) (by simp only [maxLen]; omega) (fits64 (by omega) 64 (by decide)) hB.size ?_
        intro v1 u1 o1 g1
        rw [Nat.zero_add, List.nil_append] at o1
        have hB := below_grown hB g1 (fun k hk => by cases hk)
        clear g1
        refine hK.out _ _ trivial (fun _ => ?_)
        clear hK K
        try simp only [Act.put, List.getElem_toArray, List.getElem_cons_zero, List.getElem_cons_succ, List.setIfInBounds_toArray, List.set_cons_zero, List.set_cons_succ]
        refine wpAnyH_ready (rs := [15]) (by kernel_rfl) (by simp) ?_
        refine AllReadyH.cons rfl (fun K hK => ?_) AllReadyH.nil
        refine step_append_own_src rfl (.tmp 17) (.tmp 24) 27 27 rfl w1.heap.size 79 i0 (.agg #[.int .i64 0, .int .i64 0, .int .i64 0, .int .i64 0, .int .i64 0, .int .i64 0, .int .i64 0, .bool false]) 8 64 Tryd.underlying27 hi hz0 hz1 hz2 rfl _ _ _ (by simp [Act.eval]) o1 _ _ _ (by simp [Act.eval]) (src_cut (ownsRow_below OP.out hB) Tryd.underlying27 (bcs_one B) (k := j + 1) hkn hnc (c - (j + 1))) (by simp only [maxLen]; omega) (fits64 (by omega) 64 (by decide)) hB.size ?_
        intro v2 u2 o2 g2
        obtain ⟨a2, c2, rfl, -⟩ := row_of o2
        have hB := below_grown hB g2 (fun k hk => (o1.lt k hk).1)
        clear g2
        refine hK.out _ _ trivial (fun _ => ?_)
        clear hK K
        try simp only [Act.put, List.getElem_toArray, List.getElem_cons_zero, List.getElem_cons_succ, List.setIfInBounds_toArray, List.set_cons_zero, List.set_cons_succ]
        refine wpAnyH_take (i := 16) (v := ?_) rfl (by kernel_rfl) (by kernel_rfl) (by kernel_rfl) (fun _ _ _ h => h) (Or.inl ⟨by kernel_rfl, ?hy16⟩) (by assumption) ?_
        case hy16 => (intro w hSw; (try dsimp only at hSw); go_simp; try with_reducible rfl)
        try simp only [Act.put, List.getElem_toArray, List.getElem_cons_zero, List.getElem_cons_succ, List.setIfInBounds_toArray, List.set_cons_zero, List.set_cons_succ]
        refine wpAnyH_take (i := 17) (v := ?_) rfl (by kernel_rfl) (by kernel_rfl) (by kernel_rfl) (fun _ _ _ h => h) (Or.inl ⟨by kernel_rfl, ?hy17⟩) (by assumption) ?_
        case hy17 => (intro w hSw; (try dsimp only at hSw); go_simp; try with_reducible rfl)
        try simp only [Act.put, List.getElem_toArray, List.getElem_cons_zero, List.getElem_cons_succ, List.setIfInBounds_toArray, List.set_cons_zero, List.set_cons_succ]
        refine wpAnyH_ready (rs := [18]) (by kernel_rfl) (by simp) ?_
        refine AllReadyH.cons rfl (fun K hK => ?_) AllReadyH.nil
        have HV4 := (kp_of_below hB []).var HV.out (by simp)
        have HY := hid (HX.out _ _ hB o2)
        have c4 : u2.cell? ⟨q, 1, none⟩ = some (.slice (some ⟨g, 0, none⟩) n c) := (by rw [Lib.cell_of_heap HV4]; rfl)
        have f4 := Lib.frozen_of_heap HV4 1
        go_simp
        refine hK.out _ _ trivial (fun _ => ?_)
        clear hK K c4 f4 HV4
        try simp only [Act.put, List.getElem_toArray, List.getElem_cons_zero, List.getElem_cons_succ, List.setIfInBounds_toArray, List.set_cons_zero, List.set_cons_succ]
        refine wpAnyH_done (by kernel_rfl) ?_ _
        go_wp2
        go_end0
        exact HY.out
      exact AllReadyH.nil
    refine AllReadyH.cons rfl (fun K hK => ?_) ?_
    · have c0 := (kp_of_below hB []).cell C0.out (by simp)
      go_simp
      refine hK.out _ _ trivial (fun _ => ?_)
      clear hK K c0
      try simp only [Act.put, List.getElem_toArray, List.getElem_cons_zero, List.getElem_cons_succ, List.setIfInBounds_toArray, List.set_cons_zero, List.set_cons_succ]
      refine wpAnyH_take (i := 14) (v := ?_) rfl (by kernel_rfl) (by kernel_rfl) (by kernel_rfl) (fun _ _ _ h => h) (Or.inl ⟨by kernel_rfl, ?hy14⟩) (by assumption) ?_
      case hy14 => (intro w hSw; (try dsimp only at hSw); go_simp; try with_reducible rfl)
      try simp only [Act.put, List.getElem_toArray, List.getElem_cons_zero, List.getElem_cons_succ, List.setIfInBounds_toArray, List.set_cons_zero, List.set_cons_succ]
      refine wpAnyH_ready (rs := [4]) (by kernel_rfl) (by simp) ?_
      refine AllReadyH.cons rfl (fun K hK => ?_) AllReadyH.nil
      have c0 := (kp_of_below hB []).cell C0.out (by simp)
      go_simp
      refine hK.out _ _ trivial (fun _ => ?_)
      clear hK K c0
      try simp only [Act.put, List.getElem_toArray, List.getElem_cons_zero, List.getElem_cons_succ, List.setIfInBounds_toArray, List.set_cons_zero, List.set_cons_succ]
      refine wpAnyH_take (i := 6) (v := ?_) rfl (by kernel_rfl) (by kernel_rfl) (by kernel_rfl) (fun _ _ _ h => h) (Or.inl ⟨by kernel_rfl, ?hy6⟩) (by assumption) ?_
      case hy6 => (intro w hSw; (try dsimp only at hSw); go_simp; try with_reducible rfl)
      try simp only [Act.put, List.getElem_toArray, List.getElem_cons_zero, List.getElem_cons_succ, List.setIfInBounds_toArray, List.set_cons_zero, List.set_cons_succ]
      refine wpAnyH_ready (rs := [7]) (by kernel_rfl) (by simp) ?_
      refine AllReadyH.cons rfl (fun K hK => ?_) AllReadyH.nil
      refine step_append_own_src rfl (.const (.slice none 0 0)) (.tmp 16) 27 27 rfl w1.heap.size 79 i0 (.agg #[.int .i64 0, .int .i64 0, .int .i64 0, .int .i64 0, .int .i64 0, .int .i64 0, .int .i64 0, .bool false]) 8 64 Tryd.underlying27 hi hz0 hz1 hz2 rfl _ 0 [] (by simp [Act.eval]) (World.ownsRow_nil _ _ _ _) _ _ _ (by simp [Act.eval]) (src_take (ownsRow_below OP.out hB) Tryd.underlying27 (bcs_one B) (Nat.le_of_lt hkn) c) (by simp only [maxLen]; omega) (fits64 (by omega) 64 (by decide)) hB.size ?_
      intro v1 u1 o1 g1
      rw [Nat.zero_add, List.nil_append] at o1
      have hB := below_grown hB g1 (fun k hk => by cases hk)
      clear g1
      refine hK.out _ _ trivial (fun _ => ?_)
      clear hK K
      try simp only [Act.put, List.getElem_toArray, List.getElem_cons_zero, List.getElem_cons_succ, List.setIfInBounds_toArray, List.set_cons_zero, List.set_cons_succ]
      refine wpAnyH_ready (rs := [15]) (by kernel_rfl) (by simp) ?_
      refine AllReadyH.cons rfl (fun K hK => ?_) AllReadyH.nil
      refine step_append_own_src rfl (.tmp 17) (.tmp 24) 27 27 rfl w1.heap.size 79 i0 (.agg #[.int .i64 0, .int .i64 0, .int .i64 0, .int .i64 0, .int .i64 0, .int .i64 0, .int .i64 0, .bool false]) 8 64 Tryd.underlying27 hi hz0 hz1 hz2 rfl _ _ _ (by simp [Act.eval]) o1 _ _ _ (by simp [Act.eval]) (src_cut (ownsRow_below OP.out hB) Tryd.underlying27 (bcs_one B) (k := j + 1) hkn hnc (c - (j + 1))) (by simp only [maxLen]; omega) (fits64 (by omega) 64 (by decide)) hB.size ?_
      intro v2 u2 o2 g2
      obtain ⟨a2, c2, rfl, -⟩ := row_of o2
      have hB := below_grown hB g2 (fun k hk => (o1.lt k hk).1)
      clear g2
      refine hK.out _ _ trivial (fun _ => ?_)
      clear hK K
      try simp only [Act.put, List.getElem_toArray, List.getElem_cons_zero, List.getElem_cons_succ, List.setIfInBounds_toArray, List.set_cons_zero, List.set_cons_succ]
      refine wpAnyH_take (i := 16) (v := ?_) rfl (by kernel_rfl) (by kernel_rfl) (by kernel_rfl) (fun _ _ _ h => h) (Or.inl ⟨by kernel_rfl, ?hy16⟩) (by assumption) ?_
      case hy16 => (intro w hSw; (try dsimp only at hSw); go_simp; try with_reducible rfl)
      try simp only [Act.put, List.getElem_toArray, List.getElem_cons_zero, List.getElem_cons_succ, List.setIfInBounds_toArray, List.set_cons_zero, List.set_cons_succ]
      refine wpAnyH_take (i := 17) (v := ?_) rfl (by kernel_rfl) (by kernel_rfl) (by kernel_rfl) (fun _ _ _ h => h) (Or.inl ⟨by kernel_rfl, ?hy17⟩) (by assumption) ?_
      case hy17 => (intro w hSw; (try dsimp only at hSw); go_simp; try with_reducible rfl)
      try simp only [Act.put, List.getElem_toArray, List.getElem_cons_zero, List.getElem_cons_succ, List.setIfInBounds_toArray, List.set_cons_zero, List.set_cons_succ]
      refine wpAnyH_ready (rs := [18]) (by kernel_rfl) (by simp) ?_
      refine AllReadyH.cons rfl (fun K hK => ?_) AllReadyH.nil
      have HV4 := (kp_of_below hB []).var HV.out (by simp)
      have HY := hid (HX.out _ _ hB o2)
      have c4 : u2.cell? ⟨q, 1, none⟩ = some (.slice (some ⟨g, 0, none⟩) n c) := (by rw [Lib.cell_of_heap HV4]; rfl)
      have f4 := Lib.frozen_of_heap HV4 1
      go_simp
      refine hK.out _ _ trivial (fun _ => ?_)
      clear hK K c4 f4 HV4
      try simp only [Act.put, List.getElem_toArray, List.getElem_cons_zero, List.getElem_cons_succ, List.setIfInBounds_toArray, List.set_cons_zero, List.set_cons_succ]
      refine wpAnyH_done (by kernel_rfl) ?_ _
      go_wp2
      go_end0
      exact HY.out
    exact AllReadyH.nil

set_option maxRecDepth 100000 in
theorem rdropb_any (hT : Dst base w q P B) (hn : B.length < 999) (id : Int) :
    Calls Tryd.prog 19 #[.pointer (some ⟨q, 0, none⟩), .int .i64 id] w fun e w' => Dgv base w q (dbE B id) P (dbS B id) e w' := by
  have HL := hid (rlive_any hT (by omega) id)
  cases hq : liveOf B id with
  | false =>
    have HX := hid (dgv_no hT 5 (dbE B id) P (dbS B id) (by rw [dbE, hq]; rfl) rfl (by rw [dbS, hq]; rfl))
    rw [hq] at HL
    clear hT hq
    go_enter Tryd.func19, Tryd.ntmps19
    go_wp2_with fail
    refine HL.out.mono ?_
    rintro e w1 ⟨rfl, rfl⟩
    go_wp2
    go_ret
    exact HX.out
  | true =>
    obtain ⟨x, hx⟩ : ∃ x, gt B id = some x := by
      cases h : gt B id with
      | none => rw [liveOf, h] at hq; cases hq
      | some x => exact ⟨x, rfl⟩
    have hT2 : Dst base w.drew q P B := hT.on (Below.refl _ _).drew
    obtain ⟨g, c, c0, hle, hmax, -, hgl, hgq, -, c4, f4, hset, hk⟩ := hT2.bat hx
    have hlt := ix_lt hx
    have HPD := hid (rbuffer_any hT2 (by omega) id)
    rw [ixI_some hx] at HPD
    have HY : Hid (Dgv base w q (dbE B id) P (dbS B id) (.returned (.int .i64 (0 : Nat))) (w.drew.setCell ⟨g, ix B id * 8 + 7, none⟩ (.bool false))) := by
      rw [Hid, dbE, dbS, hq, if_pos rfl, if_pos rfl, hx, Option.getD_some]
      exact ⟨rfl, hset, (dfb_below hT (Below.refl _ _).drew).trans hk⟩
    have C0 := hid c0
    have C4 := hid c4
    have F4 := hid f4
    rw [hq] at HL
    clear hT hx hq hset hk c0 c4 f4 hT2
    simp only [maxLen] at hmax
    generalize ix B id = j at *
    generalize B.length = n at *
    have hj0 : (0 : Int) ≤ (j : Int) := by omega
    have hj1 : (j : Int) < (n : Int) := by omega
    go_enter Tryd.func19, Tryd.ntmps19
    go_wp2_with fail
    refine HL.out.mono ?_
    rintro e w1 ⟨rfl, hw1⟩
    subst hw1
    go_wp2_with fail
    have hHeld := trivial
    refine wp_region_held_drew (S := fun _ => True) (by kernel_rfl) hHeld (fun _ => ?_)
    refine wpAnyH_take (i := 0) (v := ?_) rfl (by kernel_rfl) (by kernel_rfl) (by kernel_rfl) (fun _ _ _ h => h) (Or.inl ⟨by kernel_rfl, ?hy0⟩) (by assumption) ?_
    case hy0 => (intro w hSw; (try dsimp only at hSw); go_simp; try with_reducible rfl)
    try simp only [Act.put, List.getElem_toArray, List.getElem_cons_zero, List.setIfInBounds_toArray, List.set_cons_zero, List.set_cons_succ]
    refine wpAnyH_take (i := 1) (v := ?_) rfl (by kernel_rfl) (by kernel_rfl) (by kernel_rfl) (fun _ _ _ h => h) (Or.inl ⟨by kernel_rfl, ?hy1⟩) (by assumption) ?_
    case hy1 => (intro w hSw; (try dsimp only at hSw); go_simp; try with_reducible rfl)
    try simp only [Act.put, List.getElem_toArray, List.getElem_cons_zero, List.getElem_cons_succ, List.setIfInBounds_toArray, List.set_cons_zero, List.set_cons_succ]
    refine wpAnyH_take (i := 2) (v := ?_) rfl (by kernel_rfl) (by kernel_rfl) (by kernel_rfl) (fun _ _ _ h => h) (Or.inl ⟨by kernel_rfl, ?hy2⟩) (by assumption) ?_
    case hy2 => (intro w hSw; (try dsimp only at hSw); go_simp; try with_reducible rfl)
    try simp only [Act.put, List.getElem_toArray, List.getElem_cons_zero, List.getElem_cons_succ, List.setIfInBounds_toArray, List.set_cons_zero, List.set_cons_succ]
    refine wpAnyH_take (i := 4) (v := ?_) rfl (by kernel_rfl) (by kernel_rfl) (by kernel_rfl) (fun _ _ _ h => h) (Or.inl ⟨by kernel_rfl, ?hy4⟩) (by assumption) ?_
    case hy4 => (intro w hSw; (try dsimp only at hSw); go_simp; try with_reducible rfl)
    try simp only [Act.put, List.getElem_toArray, List.getElem_cons_zero, List.getElem_cons_succ, List.setIfInBounds_toArray, List.set_cons_zero, List.set_cons_succ]
    refine wpAnyH_take (i := 5) (v := ?_) rfl (by kernel_rfl) (by kernel_rfl) (by kernel_rfl) (fun _ _ _ h => h) (Or.inl ⟨by kernel_rfl, ?hy5⟩) (by assumption) ?_
    case hy5 => (intro w hSw; (try dsimp only at hSw); go_simp; try with_reducible rfl)
    try simp only [Act.put, List.getElem_toArray, List.getElem_cons_zero, List.getElem_cons_succ, List.setIfInBounds_toArray, List.set_cons_zero, List.set_cons_succ]
    refine wpAnyH_ready (rs := [3, 6]) (by kernel_rfl) (by simp) ?_
    refine AllReadyH.cons rfl (fun K hK => ?_) ?_
    · have c0 := C0.out
      go_simp
      refine hK.out _ _ trivial (fun _ => ?_)
      clear hK K c0
      try simp only [Act.put, List.getElem_toArray, List.getElem_cons_zero, List.getElem_cons_succ, List.setIfInBounds_toArray, List.set_cons_zero, List.set_cons_succ]
      refine wpAnyH_ready (rs := [6]) (by kernel_rfl) (by simp) ?_
      refine AllReadyH.cons rfl (fun K hK => ?_) AllReadyH.nil
      go_simp
      go_wp2_with fail
      refine HPD.out.mono ?_
      rintro e u9 ⟨rfl, rfl⟩
      refine hK.out _ _ trivial (fun _ => ?_)
      clear hK K
      try simp only [Act.put, List.getElem_toArray, List.getElem_cons_zero, List.getElem_cons_succ, List.setIfInBounds_toArray, List.set_cons_zero, List.set_cons_succ]
      refine wpAnyH_take (i := 7) (v := ?_) rfl (by kernel_rfl) (by kernel_rfl) (by kernel_rfl) (fun _ _ _ h => h) (Or.inl ⟨by kernel_rfl, ?hy7⟩) (by assumption) ?_
      case hy7 => (intro w hSw; (try dsimp only at hSw); go_simp; try with_reducible rfl)
      try simp only [Act.put, List.getElem_toArray, List.getElem_cons_zero, List.getElem_cons_succ, List.setIfInBounds_toArray, List.set_cons_zero, List.set_cons_succ]
      refine wpAnyH_take (i := 8) (v := ?_) rfl (by kernel_rfl) (by kernel_rfl) (by kernel_rfl) (fun _ _ _ h => h) (Or.inl ⟨by kernel_rfl, ?hy8⟩) (by assumption) ?_
      case hy8 => (intro w hSw; (try dsimp only at hSw); go_simp; try with_reducible rfl)
      try simp only [Act.put, List.getElem_toArray, List.getElem_cons_zero, List.getElem_cons_succ, List.setIfInBounds_toArray, List.set_cons_zero, List.set_cons_succ]
      refine wpAnyH_ready (rs := [9]) (by kernel_rfl) (by simp) ?_
      refine AllReadyH.cons rfl (fun K hK => ?_) AllReadyH.nil
      have c4 := C4.out
      have f4 := F4.out
      go_simp
      refine hK.out _ _ trivial (fun _ => ?_)
      clear hK K c4 f4
      try simp only [Act.put, List.getElem_toArray, List.getElem_cons_zero, List.getElem_cons_succ, List.setIfInBounds_toArray, List.set_cons_zero, List.set_cons_succ]
      refine wpAnyH_done (by kernel_rfl) ?_ _
      go_wp2
      go_ret
      exact HY.out
    refine AllReadyH.cons rfl (fun K hK => ?_) ?_
    · go_simp
      go_wp2_with fail
      refine HPD.out.mono ?_
      rintro e u9 ⟨rfl, rfl⟩
      refine hK.out _ _ trivial (fun _ => ?_)
      clear hK K
      try simp only [Act.put, List.getElem_toArray, List.getElem_cons_zero, List.getElem_cons_succ, List.setIfInBounds_toArray, List.set_cons_zero, List.set_cons_succ]
      refine wpAnyH_ready (rs := [3]) (by kernel_rfl) (by simp) ?_
      refine AllReadyH.cons rfl (fun K hK => ?_) AllReadyH.nil
      have c0 := C0.out
      go_simp
      refine hK.out _ _ trivial (fun _ => ?_)
      clear hK K c0
      try simp only [Act.put, List.getElem_toArray, List.getElem_cons_zero, List.getElem_cons_succ, List.setIfInBounds_toArray, List.set_cons_zero, List.set_cons_succ]
      refine wpAnyH_take (i := 7) (v := ?_) rfl (by kernel_rfl) (by kernel_rfl) (by kernel_rfl) (fun _ _ _ h => h) (Or.inl ⟨by kernel_rfl, ?hy7⟩) (by assumption) ?_
      case hy7 => (intro w hSw; (try dsimp only at hSw); go_simp; try with_reducible rfl)
      try simp only [Act.put, List.getElem_toArray, List.getElem_cons_zero, List.getElem_cons_succ, List.setIfInBounds_toArray, List.set_cons_zero, List.set_cons_succ]
      refine wpAnyH_take (i := 8) (v := ?_) rfl (by kernel_rfl) (by kernel_rfl) (by kernel_rfl) (fun _ _ _ h => h) (Or.inl ⟨by kernel_rfl, ?hy8⟩) (by assumption) ?_
      case hy8 => (intro w hSw; (try dsimp only at hSw); go_simp; try with_reducible rfl)
      try simp only [Act.put, List.getElem_toArray, List.getElem_cons_zero, List.getElem_cons_succ, List.setIfInBounds_toArray, List.set_cons_zero, List.set_cons_succ]
      refine wpAnyH_ready (rs := [9]) (by kernel_rfl) (by simp) ?_
      refine AllReadyH.cons rfl (fun K hK => ?_) AllReadyH.nil
      have c4 := C4.out
      have f4 := F4.out
      go_simp
      refine hK.out _ _ trivial (fun _ => ?_)
      clear hK K c4 f4
      try simp only [Act.put, List.getElem_toArray, List.getElem_cons_zero, List.getElem_cons_succ, List.setIfInBounds_toArray, List.set_cons_zero, List.set_cons_succ]
      refine wpAnyH_done (by kernel_rfl) ?_ _
      go_wp2
      go_ret
      exact HY.out
    exact AllReadyH.nil
end Go.Proofs.YtnfenfleahennaaDoor
