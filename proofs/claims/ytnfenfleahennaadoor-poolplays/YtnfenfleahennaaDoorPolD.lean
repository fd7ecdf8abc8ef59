/- The contracts of the program's pool, II: give, Pool, Resize, Buffer, DropBuffer. -/
import Derived.Test.YtnfenfleahennaaDoorPolC
namespace Go.Proofs.YtnfenfleahennaaDoor
open Go Go.RowKit

section
variable {H : Type} {P : Program} {ops : Array Oper} {o : Oper} {a : Act} {w : World} {Kc : Act → World → Prop} {Q : Exit → Act → World → Prop} {E : Prop}
/-- A map's entry written, inside a region that draws. -/
theorem step_mapUpdate_own (hg : o.guard = none) (m x v : Operand) (t : TypeId) (hop : o.op = Op.mapUpdate t m x v)
    (k e : TypeId) (K : Maps.Keyed P k) (ht : P.underlying t = some (.map k e)) (R : Value → Option (DataW H × List MemPlace)) (b n : Nat) (D : DataW H)
    (hm : a.eval m = .map (some b)) (hown : w.ownsMap P k R b n D) (hn : n < maxLen) (key val : Value) (kl : Lit) (hx : a.eval x = key) (hv : a.eval v = val) (hkey : keyOf P k key = some kl)
    (d : DataW H) (ps : List MemPlace) (hval : R val = some (d, ps))
    (h : ∀ w', w'.ownsMap P k R b (n + 1) (D.put kl d) → w.mapTurned w' b → Kc (a.put o.dst undef) w') :
    if Region.wanted o (yielded ops a.tmps) = true then Oper.wp P o a w Kc Q else E := by
  have hw : Region.wanted o (yielded ops a.tmps) = true := by simp [Region.wanted, hg]
  rw [if_pos hw]
  obtain ⟨w', hrun, r1, r2⟩ := hown.store K ht hn hkey hval
  unfold Oper.wp
  simp [execOp, hop, hm, hx, hv, hrun, Result.andThen]
  exact h w' r1 r2
/-- 'm[k]', inside a region that draws. -/
theorem step_lookup_own (hg : o.guard = none) (m x : Operand) (t : TypeId) (hop : o.op = Op.lookup t m x false)
    (k e : TypeId) (K : Maps.Keyed P k) (ht : P.underlying t = some (.map k e)) (R : Value → Option (DataW H × List MemPlace)) {z : Value} (hz : (zeroValue e).run P w = .ok z w) (zd : DataW H) (zp : List MemPlace) (hzd : R z = some (zd, zp)) (b n : Nat) (D : DataW H)
    (hm : a.eval m = .map (some b)) (hown : w.ownsMap P k R b n D) (key : Value) (kl : Lit) (hx : a.eval x = key) (hkey : keyOf P k key = some kl)
    (h : ∀ v ps, R v = some (D.atKey kl zd, ps) → Kc (a.put o.dst v) w) :
    if Region.wanted o (yielded ops a.tmps) = true then Oper.wp P o a w Kc Q else E := by
  have hw : Region.wanted o (yielded ops a.tmps) = true := by simp [Region.wanted, hg]
  rw [if_pos hw]
  obtain ⟨v, ps, hrun, hv⟩ := hown.lookup K ht hz hzd hkey
  unfold Oper.wp
  simp [execOp, hop, hm, hx, hrun, Result.andThen]
  exact h v ps hv
end

variable {base : Nat} {w w' : World} {p a b : Nat} {P : PL} {B : BL} {es : List Addr}

theorem gv8 {size least memory : Int} (h : size < least ∨ 65536 < size) : gvE size least memory = 8 := by rw [gvE, if_pos h]
theorem gv9 {size least memory : Int} (h : ¬ (size < least ∨ 65536 < size)) (h2 : memory < size) : gvE size least memory = 9 := by rw [gvE, if_neg h, if_pos h2]
theorem gv0 {size least memory : Int} (h : ¬ (size < least ∨ 65536 < size)) (h2 : ¬ memory < size) : gvE size least memory = 0 := by rw [gvE, if_neg h, if_neg h2]

def gvS (P : PL) (id key size least memory : Int) : PL := if gvE size least memory = 0 then wr P id (key, size) else P
/-- What a call that may write pools answers. -/
def Gave (base : Nat) (w : World) (es : List Addr) (p a b : Nat) (k : Nat) (P' : PL) (B : BL) (e : Ending) (w' : World) : Prop :=
  e = .returned (erv es k) ∧ Pst base w' p a b P' B ∧ Kp [a] w w'

set_option maxRecDepth 100000 in
theorem give_any (hE : Errs w gerrs es) (hT : Pst base w p a b P B) (hn : P.length < 1000) (id key size least memory : Int) (hi : I64 id) (hl : 1 ≤ least) :
    Calls Tryd.prog 37 #[.pointer (some ⟨p, 0, none⟩), .int .i64 id, .agg #[.int .i64 key, .int .i64 size], .int .i64 least, .int .i64 memory] w fun e w' => Gave base w es p a b (gvE size least memory) (gvS P id key size least memory) B e w' := by
  have hb : Below w.heap.size w (w.alloc (.cells #[.int .i64 key, .int .i64 size] 71)) := (Below.refl _ _).alloc (Nat.le_refl _) _
  have hT2 := hT.on hb
  have c8 := (hE.below hb).at_ 7 _ rfl
  have c9 := (hE.below hb).at_ 8 _ rfl
  have l8 := World.block_lt_of_cell? _ _ c8
  have l9 := World.block_lt_of_cell? _ _ c9
  have HNO : Hid (∀ k, 0 < k → gvE size least memory = k → Gave base w es p a b (gvE size least memory) (gvS P id key size least memory) B (.returned (erv es k)) (w.alloc (.cells #[.int .i64 key, .int .i64 size] 71))) := fun k hk e => by
    rw [gvS, e, if_neg (by omega)]
    exact ⟨rfl, hT2, kp_of_below hb _⟩
  by_cases h1 : size < least
  · have e1 : decide (size < least) = true := decide_eq_true h1
    have HX := hid (HNO.out 8 (by decide) (gv8 (.inl h1)))
    clear hT hT2 hE hb HNO
    go_enter Tryd.func37, Tryd.ntmps37
    go_wp2
    go_ret
    exact HX.out
  · have e1 : decide (size < least) = false := decide_eq_false h1
    by_cases h2 : 65536 < size
    · have e2 : decide (65536 < size) = true := decide_eq_true h2
      have HX := hid (HNO.out 8 (by decide) (gv8 (.inr h2)))
      clear hT hT2 hE hb HNO
      go_enter Tryd.func37, Tryd.ntmps37
      go_wp2
      go_ret
      exact HX.out
    · have e2 : decide (65536 < size) = false := decide_eq_false h2
      by_cases h3 : memory < size
      · have e3 : decide (memory < size) = true := decide_eq_true h3
        have HX := hid (HNO.out 9 (by decide) (gv9 (by omega) h3))
        clear hT hT2 hE hb HNO
        go_enter Tryd.func37, Tryd.ntmps37
        go_wp2
        go_ret
        exact HX.out
      · have e3 : decide (memory < size) = false := decide_eq_false h3
        have h0 := gv0 (size := size) (least := least) (memory := memory) (by omega) h3
        rw [gvS, h0, if_pos rfl]
        have HK := hid (kInt id hi)
        have hl0 := hT.lt.1
        have HB := hid hb
        have HT2 := hid hT2
        have hg0 : (w.alloc (.cells #[.int .i64 key, .int .i64 size] 71)).cell? ⟨w.heap.size, 0, none⟩ = some (.int .i64 key) := by rw [Lib.cell_of_heap (heap_alloc_new _ _)]; rfl
        have hg1 : (w.alloc (.cells #[.int .i64 key, .int .i64 size] 71)).cell? ⟨w.heap.size, 1, none⟩ = some (.int .i64 size) := by rw [Lib.cell_of_heap (heap_alloc_new _ _)]; rfl
        have hp0 := hT2.c0
        have HG0 := hid hg0
        have HG1 := hid hg1
        have HP0 := hid hp0
        have HL := hid hT.lt
        clear hT hE hb HNO hT2 h0 hg0 hg1 hp0
        go_enter Tryd.func37, Tryd.ntmps37
        go_wp2_with fail
        generalize hW : w.alloc (.cells #[.int .i64 key, .int .i64 size] 71) = W at *
        -- HERE
        obtain ⟨D, ho, hR⟩ := HT2.out.drew.pown
        have HO := hid ho
        have HR := hid hR
        clear ho hR
        have hHeld := (show _ ∧ _ ∧ _ from ⟨HP0.out, HG0.out, HG1.out⟩)
        refine wp_region_held_drew (S := fun x => x.cell? ⟨p, 0, none⟩ = some (.map (some a)) ∧ x.cell? ⟨w.heap.size, 0, none⟩ = some (.int .i64 key) ∧ x.cell? ⟨w.heap.size, 1, none⟩ = some (.int .i64 size)) (by kernel_rfl) hHeld (fun _ => ?_)
        refine wpAnyH_take (i := 0) (v := ?_) rfl (by kernel_rfl) (by kernel_rfl) (by kernel_rfl) (fun _ _ _ h => h) (Or.inl ⟨by kernel_rfl, ?hy0⟩) (by assumption) ?_
        case hy0 => (intro w hSw; (try dsimp only at hSw); obtain ⟨t0, t1, t2⟩ := hSw; go_simp; try with_reducible rfl)
        try simp only [Act.put, List.getElem_toArray, List.getElem_cons_zero, List.setIfInBounds_toArray, List.set_cons_zero, List.set_cons_succ]
        refine wpAnyH_take (i := 1) (v := ?_) rfl (by kernel_rfl) (by kernel_rfl) (by kernel_rfl) (fun _ _ _ h => h) (Or.inl ⟨by kernel_rfl, ?hy1⟩) (by assumption) ?_
        case hy1 => (intro w hSw; (try dsimp only at hSw); obtain ⟨t0, t1, t2⟩ := hSw; go_simp; try with_reducible rfl)
        try simp only [Act.put, List.getElem_toArray, List.getElem_cons_zero, List.getElem_cons_succ, List.setIfInBounds_toArray, List.set_cons_zero, List.set_cons_succ]
        refine wpAnyH_take (i := 2) (v := ?_) rfl (by kernel_rfl) (by kernel_rfl) (by kernel_rfl) (fun _ _ _ h => h) (Or.inl ⟨by kernel_rfl, ?hy2⟩) (by assumption) ?_
        case hy2 => (intro w hSw; (try dsimp only at hSw); obtain ⟨t0, t1, t2⟩ := hSw; go_simp; try with_reducible rfl)
        try simp only [Act.put, List.getElem_toArray, List.getElem_cons_zero, List.getElem_cons_succ, List.setIfInBounds_toArray, List.set_cons_zero, List.set_cons_succ]
        refine wpAnyH_take (i := 3) (v := ?_) rfl (by kernel_rfl) (by kernel_rfl) (by kernel_rfl) (fun _ _ _ h => h) (Or.inl ⟨by kernel_rfl, ?hy3⟩) (by assumption) ?_
        case hy3 => (intro w hSw; (try dsimp only at hSw); obtain ⟨t0, t1, t2⟩ := hSw; go_simp; try with_reducible rfl)
        try simp only [Act.put, List.getElem_toArray, List.getElem_cons_zero, List.getElem_cons_succ, List.setIfInBounds_toArray, List.set_cons_zero, List.set_cons_succ]
        refine wpAnyH_take (i := 4) (v := ?_) rfl (by kernel_rfl) (by kernel_rfl) (by kernel_rfl) (fun _ _ _ h => h) (Or.inl ⟨by kernel_rfl, ?hy4⟩) (by assumption) ?_
        case hy4 => (intro w hSw; (try dsimp only at hSw); obtain ⟨t0, t1, t2⟩ := hSw; go_simp; try with_reducible rfl)
        try simp only [Act.put, List.getElem_toArray, List.getElem_cons_zero, List.getElem_cons_succ, List.setIfInBounds_toArray, List.set_cons_zero, List.set_cons_succ]
        refine wpAnyH_take (i := 5) (v := ?_) rfl (by kernel_rfl) (by kernel_rfl) (by kernel_rfl) (fun _ _ _ h => h) (Or.inl ⟨by kernel_rfl, ?hy5⟩) (by assumption) ?_
        case hy5 => (intro w hSw; (try dsimp only at hSw); obtain ⟨t0, t1, t2⟩ := hSw; go_simp; try with_reducible rfl)
        try simp only [Act.put, List.getElem_toArray, List.getElem_cons_zero, List.getElem_cons_succ, List.setIfInBounds_toArray, List.set_cons_zero, List.set_cons_succ]
        refine wpAnyH_ready (rs := [6]) (by kernel_rfl) (by simp) ?_
        refine AllReadyH.cons rfl (fun K hK => ?_) AllReadyH.nil
        refine step_mapUpdate_own rfl (.tmp 29) (.tmp 30) (.tmp 31) 64 rfl 3 71 (Maps.int_keyed Tryd.underlying3) Tryd.underlying64 plR a _ D (by simp [Act.eval]) HO.out (by simp only [maxLen]; omega) _ _ _ rfl rfl HK.out _ _ (plR_mk (key, size)) ?_
        intro w2 o2 t2
        have hk2 := kp_turned t2
        have hS2 : w2.cell? ⟨p, 0, none⟩ = some (.map (some a)) ∧ w2.cell? ⟨w.heap.size, 0, none⟩ = some (.int .i64 key) ∧ w2.cell? ⟨w.heap.size, 1, none⟩ = some (.int .i64 size) := ⟨hk2.cell HP0.out (by simpa using HT2.out.npa), hk2.cell HG0.out (by have := HL.out.2.1; simp; omega), hk2.cell HG1.out (by have := HL.out.2.1; simp; omega)⟩
        refine hK.out _ _ hS2 (fun _ => ?_)
        clear hK K hHeld
        refine wpAnyH_done (by kernel_rfl) ?_ _
        have HX : Hid (Pst base w2 p a b (wr P id (key, size)) B ∧ Kp [a] w w2) := ⟨HT2.out.drew.turnedP t2 o2 (HR.out.put HO.out.isMap id (key, size)) (HT2.out.ok.wrp id (key, size) (by simp only; omega)), (kp_of_below (Below.on HB.out (Below.refl _ _).drew) [a]).trans hk2 (fun k hk _ => hk)⟩
        clear o2 t2 hk2 hS2
        go_wp2
        go_ret
        exact ⟨rfl, HX.out.1, HX.out.2⟩

theorem Gave.low {w1 : World} {k : Nat} {P' : PL} {e : Ending} (h : Gave base w1 es p a b k P' B e w') (hb : Below w.heap.size w w1) : Gave base w es p a b k P' B e w' :=
  ⟨h.1, h.2.1, (kp_of_below hb [a]).trans h.2.2 (fun _ hk _ => hk)⟩

set_option maxRecDepth 100000 in
theorem ppool_any (hE : Errs w gerrs es) (hT : Pst base w p a b P B) (hn : P.length < 1000) (id key size memory : Int) (hi : I64 id) :
    Calls Tryd.prog 12 #[.pointer (some ⟨p, 0, none⟩), .int .i64 id, .int .i64 key, .int .i64 size, .int .i64 memory] w fun e w' => Gave base w es p a b (poolE P id size memory) (poolS P id key size memory) B e w' := by
  obtain ⟨D, ho, hR⟩ := hT.pown
  have HO := hid ho
  have HA := hid (hR id)
  have HZ := hid (zPl w)
  have HK := hid (kInt id hi)
  have c0 := hT.c0
  have l0 := hT.lt.1
  cases hq : gt P id with
  | some q =>
    have hb : Below w.heap.size w (w.alloc (.cells #[.int .i64 q.1, .int .i64 q.2] 71)) := (Below.refl _ _).alloc (Nat.le_refl _) _
    have c5 := (hE.below hb).at_ 4 _ rfl
    have l5 := World.block_lt_of_cell? _ _ c5
    have he : poolE P id size memory = 5 := by rw [poolE, hq]; rfl
    have HX : Hid (Gave base w es p a b (poolE P id size memory) (poolS P id key size memory) B (.returned (erv es 5)) (w.alloc (.cells #[.int .i64 q.1, .int .i64 q.2] 71))) := by
      rw [Hid, poolS, he, if_neg (by decide)]
      exact ⟨rfl, hT.on hb, kp_of_below hb _⟩
    rw [hq] at HA
    clear hq hT ho hR hb hE he
    go_enter Tryd.func12, Tryd.ntmps12
    go_wp2_with (at_lookup; refine wpList_lookup_own_ok _ rfl (.tmp 17) (.tmp 18) 64 rfl 3 71 (Maps.int_keyed Tryd.underlying3) Tryd.underlying64 plR HZ.out _ _ (plR_mk (0, 0)) a _ D rfl HO.out _ _ rfl HK.out ?_; intro v ps hv; rw [HA.out.2] at hv; obtain rfl := plR_inv hv; rw [HA.out.1, plv, Option.isSome_some, Option.getD_some]; clear hv)
    go_ret
    exact HX.out
  | none =>
    have hb : Below w.heap.size w (w.alloc (.cells #[.int .i64 0, .int .i64 0] 71)) := (Below.refl _ _).alloc (Nat.le_refl _) _
    have he : poolE P id size memory = gvE size 1 memory := by rw [poolE, hq]; rfl
    have hs : poolS P id key size memory = gvS P id key size 1 memory := by rw [poolS, he, gvS]
    rw [he, hs]
    have HG := hid (give_any (hE.below hb) (hT.on hb) hn id key size 1 memory hi (by decide))
    have HB := hid hb
    rw [hq] at HA
    clear hq hT ho hR hb hE he hs
    go_enter Tryd.func12, Tryd.ntmps12
    go_wp2_with (at_lookup; refine wpList_lookup_own_ok _ rfl (.tmp 17) (.tmp 18) 64 rfl 3 71 (Maps.int_keyed Tryd.underlying3) Tryd.underlying64 plR HZ.out _ _ (plR_mk (0, 0)) a _ D rfl HO.out _ _ rfl HK.out ?_; intro v ps hv; rw [HA.out.2] at hv; obtain rfl := plR_inv hv; rw [HA.out.1, plv, Option.isSome_none, Option.getD_none]; clear hv)
    refine HG.out.mono ?_
    intro e w1 hG
    have HX := hid (hG.low HB.out)
    obtain ⟨rfl, -, -⟩ := hG
    go_wp2
    go_ret
    exact HX.out

set_option maxRecDepth 100000 in
theorem presize_any (hE : Errs w gerrs es) (hT : Pst base w p a b P B) (hn : P.length < 1000) (id size memory : Int) (hi : I64 id) :
    Calls Tryd.prog 14 #[.pointer (some ⟨p, 0, none⟩), .int .i64 id, .int .i64 size, .int .i64 memory] w fun e w' => Gave base w es p a b (rszE P id size memory) (rszS P id size memory) B e w' := by
  obtain ⟨D, ho, hR⟩ := hT.pown
  have HO := hid ho
  have HA := hid (hR id)
  have HZ := hid (zPl w)
  have HK := hid (kInt id hi)
  have c0 := hT.c0
  have l0 := hT.lt.1
  cases hq : gt P id with
  | none =>
    have hb : Below w.heap.size w (w.alloc (.cells #[.int .i64 0, .int .i64 0] 71)) := (Below.refl _ _).alloc (Nat.le_refl _) _
    have c5 := (hE.below hb).at_ 4 _ rfl
    have l5 := World.block_lt_of_cell? _ _ c5
    have he : rszE P id size memory = 5 := by rw [rszE, hq]
    have HX : Hid (Gave base w es p a b (rszE P id size memory) (rszS P id size memory) B (.returned (erv es 5)) (w.alloc (.cells #[.int .i64 0, .int .i64 0] 71))) := by
      rw [Hid, rszS, he, if_neg (by decide)]
      exact ⟨rfl, hT.on hb, kp_of_below hb _⟩
    rw [hq] at HA
    clear hq hT ho hR hb hE he
    go_enter Tryd.func14, Tryd.ntmps14
    go_wp2_with (at_lookup; refine wpList_lookup_own_ok _ rfl (.tmp 15) (.tmp 16) 64 rfl 3 71 (Maps.int_keyed Tryd.underlying3) Tryd.underlying64 plR HZ.out _ _ (plR_mk (0, 0)) a _ D rfl HO.out _ _ rfl HK.out ?_; intro v ps hv; rw [HA.out.2] at hv; obtain rfl := plR_inv hv; rw [HA.out.1, plv, Option.isSome_none, Option.getD_none]; clear hv)
    go_ret
    exact HX.out
  | some q =>
    have hb : Below w.heap.size w (w.alloc (.cells #[.int .i64 q.1, .int .i64 q.2] 71)) := (Below.refl _ _).alloc (Nat.le_refl _) _
    have he : rszE P id size memory = gvE size q.2 memory := by rw [rszE, hq]
    have hs : rszS P id size memory = gvS P id q.1 size q.2 memory := by rw [rszS, he, gvS, hq]; rfl
    rw [he, hs]
    have HG := hid (give_any (hE.below hb) (hT.on hb) hn id q.1 size q.2 memory hi (hT.ok.at_ hq).1)
    have HB := hid hb
    rw [hq] at HA
    clear hq hT ho hR hb hE he hs
    go_enter Tryd.func14, Tryd.ntmps14
    go_wp2_with (at_lookup; refine wpList_lookup_own_ok _ rfl (.tmp 15) (.tmp 16) 64 rfl 3 71 (Maps.int_keyed Tryd.underlying3) Tryd.underlying64 plR HZ.out _ _ (plR_mk (0, 0)) a _ D rfl HO.out _ _ rfl HK.out ?_; intro v ps hv; rw [HA.out.2] at hv; obtain rfl := plR_inv hv; rw [HA.out.1, plv, Option.isSome_some, Option.getD_some]; clear hv)
    refine HG.out.mono ?_
    intro e w1 hG
    have HX := hid (hG.low HB.out)
    obtain ⟨rfl, -, -⟩ := hG
    go_wp2
    go_ret
    exact HX.out

/-- What a call that may write buffers answers. -/
def Gavb (base : Nat) (w : World) (es : List Addr) (p a b : Nat) (k : Nat) (P : PL) (B' : BL) (e : Ending) (w' : World) : Prop :=
  e = .returned (erv es k) ∧ Pst base w' p a b P B' ∧ Kp [b] w w'

theorem fldB (a b c d e f : Int) (g : Bool) (w : World) : (Instr.field 77 (.agg #[.int .i64 a, .int .i64 b, .int .i64 c, .int .i64 d, .int .i64 e, .int .i64 f, .bool g]) 0).run Tryd.prog w = .ok (.agg #[.int .i64 a, .int .i64 b, .int .i64 c, .int .i64 d, .int .i64 e, .int .i64 f]) w := by kernel_rfl

set_option maxRecDepth 100000 in
theorem pdropb_any (hE : Errs w gerrs es) (hT : Pst base w p a b P B) (hn : B.length < 1000) (id : Int) (hi : I64 id) :
    Calls Tryd.prog 18 #[.pointer (some ⟨p, 0, none⟩), .int .i64 id] w fun e w' => Gavb base w es p a b (dbE B id) P (dbS B id) e w' := by
  have HL := hid (plive_any hT id hi)
  cases hq : liveOf B id with
  | false =>
    have HX : Hid (∀ u, Below w.heap.size w u → Gavb base w es p a b (dbE B id) P (dbS B id) (.returned (erv es 5)) u) := fun u hu => by
      rw [dbE, dbS, hq]
      exact ⟨rfl, hT.on hu, kp_of_below hu _⟩
    have HE := hid hE
    rw [hq] at HL
    clear hq hT hE
    go_enter Tryd.func18, Tryd.ntmps18
    go_wp2_with fail
    refine HL.out.mono ?_
    rintro e w1 ⟨rfl, hb⟩
    have c5 := (HE.out.below hb).at_ 4 _ rfl
    have l5 := World.block_lt_of_cell? _ _ c5
    have HY := hid (HX.out _ hb)
    clear hb HX
    go_wp2
    go_ret
    exact HY.out
  | true =>
    have he : dbE B id = 0 := by rw [dbE, hq]; rfl
    obtain ⟨⟨q, dr⟩, hg⟩ : ∃ q, q = (gt B id).getD (nf0, false) := ⟨_, rfl⟩
    have hs : dbS B id = wr B id (q, true) := by rw [dbS, hq, if_pos rfl, ← hg]
    rw [he, hs]
    have HT := hid hT
    have HK := hid (kInt id hi)
    have HGG := hid hg
    rw [hq] at HL
    clear hq hT hE he hs hg
    go_enter Tryd.func18, Tryd.ntmps18
    go_wp2_with fail
    refine HL.out.mono ?_
    rintro e w1 ⟨rfl, hb⟩
    go_wp2_with fail
    obtain ⟨D, ho, hR⟩ := (HT.out.on hb).drew.bown
    have HO := hid ho
    have HR := hid hR
    have HT1 := hid (HT.out.on hb)
    have HB := hid hb
    have HP1 := hid HT1.out.c1
    have HA := hid (hR id)
    have HZ := hid (zBf w1.drew)
    have hf := fldB
    rw [← HGG.out] at HA
    clear ho hR hb HL HT
    have hHeld := HP1.out
    refine wp_region_held_drew (S := fun x => x.cell? ⟨p, 1, none⟩ = some (.map (some b))) (by kernel_rfl) hHeld (fun _ => ?_)
    refine wpAnyH_take (i := 0) (v := ?_) rfl (by kernel_rfl) (by kernel_rfl) (by kernel_rfl) (fun _ _ _ h => h) (Or.inl ⟨by kernel_rfl, ?hy0⟩) (by assumption) ?_
    case hy0 => (intro w hSw; (try dsimp only at hSw); have t0 := hSw; go_simp; try with_reducible rfl)
    try simp only [Act.put, List.getElem_toArray, List.getElem_cons_zero, List.setIfInBounds_toArray, List.set_cons_zero, List.set_cons_succ]
    refine wpAnyH_take (i := 1) (v := ?_) rfl (by kernel_rfl) (by kernel_rfl) (by kernel_rfl) (fun _ _ _ h => h) (Or.inl ⟨by kernel_rfl, ?hy1⟩) (by assumption) ?_
    case hy1 => (intro w hSw; (try dsimp only at hSw); have t0 := hSw; go_simp; try with_reducible rfl)
    try simp only [Act.put, List.getElem_toArray, List.getElem_cons_zero, List.getElem_cons_succ, List.setIfInBounds_toArray, List.set_cons_zero, List.set_cons_succ]
    refine wpAnyH_take (i := 2) (v := ?_) rfl (by kernel_rfl) (by kernel_rfl) (by kernel_rfl) (fun _ _ _ h => h) (Or.inl ⟨by kernel_rfl, ?hy2⟩) (by assumption) ?_
    case hy2 => (intro w hSw; (try dsimp only at hSw); have t0 := hSw; go_simp; try with_reducible rfl)
    try simp only [Act.put, List.getElem_toArray, List.getElem_cons_zero, List.getElem_cons_succ, List.setIfInBounds_toArray, List.set_cons_zero, List.set_cons_succ]
    refine wpAnyH_take (i := 3) (v := ?_) rfl (by kernel_rfl) (by kernel_rfl) (by kernel_rfl) (fun _ _ _ h => h) (Or.inl ⟨by kernel_rfl, ?hy3⟩) (by assumption) ?_
    case hy3 => (intro w hSw; (try dsimp only at hSw); have t0 := hSw; go_simp; try with_reducible rfl)
    try simp only [Act.put, List.getElem_toArray, List.getElem_cons_zero, List.getElem_cons_succ, List.setIfInBounds_toArray, List.set_cons_zero, List.set_cons_succ]
    refine wpAnyH_take (i := 4) (v := ?_) rfl (by kernel_rfl) (by kernel_rfl) (by kernel_rfl) (fun _ _ _ h => h) (Or.inl ⟨by kernel_rfl, ?hy4⟩) (by assumption) ?_
    case hy4 => (intro w hSw; (try dsimp only at hSw); have t0 := hSw; go_simp; try with_reducible rfl)
    try simp only [Act.put, List.getElem_toArray, List.getElem_cons_zero, List.getElem_cons_succ, List.setIfInBounds_toArray, List.set_cons_zero, List.set_cons_succ]
    refine wpAnyH_take (i := 5) (v := ?_) rfl (by kernel_rfl) (by kernel_rfl) (by kernel_rfl) (fun _ _ _ h => h) (Or.inl ⟨by kernel_rfl, ?hy5⟩) (by assumption) ?_
    case hy5 => (intro w hSw; (try dsimp only at hSw); have t0 := hSw; go_simp; try with_reducible rfl)
    try simp only [Act.put, List.getElem_toArray, List.getElem_cons_zero, List.getElem_cons_succ, List.setIfInBounds_toArray, List.set_cons_zero, List.set_cons_succ]
    refine wpAnyH_take (i := 6) (v := ?_) rfl (by kernel_rfl) (by kernel_rfl) (by kernel_rfl) (fun _ _ _ h => h) (Or.inl ⟨by kernel_rfl, ?hy6⟩) (by assumption) ?_
    case hy6 => (intro w hSw; (try dsimp only at hSw); have t0 := hSw; go_simp; try with_reducible rfl)
    try simp only [Act.put, List.getElem_toArray, List.getElem_cons_zero, List.getElem_cons_succ, List.setIfInBounds_toArray, List.set_cons_zero, List.set_cons_succ]
    refine wpAnyH_take (i := 7) (v := ?_) rfl (by kernel_rfl) (by kernel_rfl) (by kernel_rfl) (fun _ _ _ h => h) (Or.inl ⟨by kernel_rfl, ?hy7⟩) (by assumption) ?_
    case hy7 => (intro w hSw; (try dsimp only at hSw); have t0 := hSw; go_simp; try with_reducible rfl)
    try simp only [Act.put, List.getElem_toArray, List.getElem_cons_zero, List.getElem_cons_succ, List.setIfInBounds_toArray, List.set_cons_zero, List.set_cons_succ]
    refine wpAnyH_take (i := 8) (v := ?_) rfl (by kernel_rfl) (by kernel_rfl) (by kernel_rfl) (fun _ _ _ h => h) (Or.inl ⟨by kernel_rfl, ?hy8⟩) (by assumption) ?_
    case hy8 => (intro w hSw; (try dsimp only at hSw); have t0 := hSw; go_simp; try with_reducible rfl)
    try simp only [Act.put, List.getElem_toArray, List.getElem_cons_zero, List.getElem_cons_succ, List.setIfInBounds_toArray, List.set_cons_zero, List.set_cons_succ]
    refine wpAnyH_take (i := 9) (v := ?_) rfl (by kernel_rfl) (by kernel_rfl) (by kernel_rfl) (fun _ _ _ h => h) (Or.inl ⟨by kernel_rfl, ?hy9⟩) (by assumption) ?_
    case hy9 => (intro w hSw; (try dsimp only at hSw); have t0 := hSw; go_simp; try with_reducible rfl)
    try simp only [Act.put, List.getElem_toArray, List.getElem_cons_zero, List.getElem_cons_succ, List.setIfInBounds_toArray, List.set_cons_zero, List.set_cons_succ]
    refine wpAnyH_ready (rs := [10]) (by kernel_rfl) (by simp) ?_
    refine AllReadyH.cons rfl (fun K hK => ?_) AllReadyH.nil
    refine step_lookup_own rfl (.tmp 18) (.tmp 19) 65 rfl 3 77 (Maps.int_keyed Tryd.underlying3) Tryd.underlying65 bfR HZ.out _ _ (bfR_mk (nf0, false)) b _ D (by simp [Act.eval]) HO.out _ _ rfl HK.out ?_
    intro v ps hv
    rw [HA.out.2] at hv
    obtain rfl := bfR_inv hv
    rw [bfv]
    clear hv
    refine hK.out _ _ hHeld (fun _ => ?_)
    clear hK K
    refine wpAnyH_take (i := 11) (v := ?_) rfl (by kernel_rfl) (by kernel_rfl) (by kernel_rfl) (fun _ _ _ h => h) (Or.inl ⟨by kernel_rfl, ?hy11⟩) (by assumption) ?_
    case hy11 => (intro w hSw; (try dsimp only at hSw); have t0 := hSw; go_simp; try with_reducible rfl)
    try simp only [Act.put, List.getElem_toArray, List.getElem_cons_zero, List.getElem_cons_succ, List.setIfInBounds_toArray, List.set_cons_zero, List.set_cons_succ]
    refine wpAnyH_take (i := 12) (v := ?_) rfl (by kernel_rfl) (by kernel_rfl) (by kernel_rfl) (fun _ _ _ h => h) (Or.inl ⟨by kernel_rfl, ?hy12⟩) (by assumption) ?_
    case hy12 => (intro w hSw; (try dsimp only at hSw); have t0 := hSw; go_simp; try with_reducible rfl)
    try simp only [Act.put, List.getElem_toArray, List.getElem_cons_zero, List.getElem_cons_succ, List.setIfInBounds_toArray, List.set_cons_zero, List.set_cons_succ]
    refine wpAnyH_ready (rs := [13]) (by kernel_rfl) (by simp) ?_
    refine AllReadyH.cons rfl (fun K hK => ?_) AllReadyH.nil
    refine step_mapUpdate_own rfl (.tmp 13) (.tmp 14) (.tmp 22) 65 rfl 3 77 (Maps.int_keyed Tryd.underlying3) Tryd.underlying65 bfR b _ D (by simp [Act.eval]) HO.out (by simp only [maxLen]; omega) _ _ _ rfl rfl HK.out _ _ (bfR_mk (q, true)) ?_
    intro w2 o2 t2
    have hk2 := kp_turned t2
    refine hK.out _ _ (hk2.cell HP1.out (by simpa using HT1.out.npb)) (fun _ => ?_)
    clear hK K hHeld
    refine wpAnyH_done (by kernel_rfl) ?_ _
    have HX : Hid (Pst base w2 p a b P (wr B id (q, true)) ∧ Kp [b] w w2) := ⟨HT1.out.drew.turnedB t2 o2 (HR.out.put HO.out.isMap id (q, true)) (HT1.out.ok.wrb id (q, true)), (kp_of_below (Below.on HB.out (Below.refl _ _).drew) [b]).trans hk2 (fun k hk _ => hk)⟩
    clear o2 t2 hk2
    go_wp2
    go_ret
    exact ⟨rfl, HX.out.1, HX.out.2⟩
end Go.Proofs.YtnfenfleahennaaDoor
