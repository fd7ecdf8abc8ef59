/- Children: where one stands, found, put; the program's and the document's. -/
import Derived.Test.YtcdflegfjannmaaStaB
import Derived.Laws.Rows
import Derived.Lib.Builder
import Derived.Shelf.Abstract
namespace Go.Proofs.Ytcdflegfjannmaa
open Go Go.RowKit

/-- A block whole. -/
structure Bk (u : World) (p T : Nat) (cs : Array Value) : Prop where
  obj : u.heap[p]? = some (.cells cs T (0, 0))
theorem Bk.lt {u : World} {p T : Nat} {cs : Array Value} (h : Bk u p T cs) : p < u.heap.size := (Array.getElem?_eq_some_iff.1 h.obj).1
theorem Bk.cell {u : World} {p T : Nat} {cs : Array Value} (h : Bk u p T cs) (k : Nat) : u.cell? ⟨p, k, none⟩ = cs[k]? := Lib.cell_of_heap h.obj k
theorem Bk.fz {u : World} {p T : Nat} {cs : Array Value} (h : Bk u p T cs) (k : Nat) : u.frozen? ⟨p, k, none⟩ = false := Lib.frozen_of_heap h.obj k
theorem Bk.on {u v : World} {p T : Nat} {cs : Array Value} (h : Bk u p T cs) (hb : Below u.heap.size u v) : Bk v p T cs := ⟨by rw [hb.block p h.lt]; exact h.obj⟩
theorem Bk.kp {u v : World} {p T : Nat} {cs : Array Value} (h : Bk u p T cs) {X : List Nat} (hb : Kp X u v) (hX : p ∉ X) : Bk v p T cs := ⟨hb.var h.obj hX⟩
theorem bk_new (w : World) (cs : Array Value) (T : Nat) : Bk (w.alloc (.cells cs T)) w.heap.size T cs := ⟨heap_alloc_new w _⟩
theorem Bk.set {u : World} {p T : Nat} {cs : Array Value} (h : Bk u p T cs) (k : Nat) (v : Value) : Bk (u.setCell ⟨p, k, none⟩ v) p T (cs.setIfInBounds k v) := ⟨heap_setCell_same _ p k _ _ _ h.obj⟩
theorem Bk.other {u : World} {p q T : Nat} {cs : Array Value} (h : Bk u p T cs) (hn : p ≠ q) (k : Nat) (v : Value) : Bk (u.setCell ⟨q, k, none⟩ v) p T cs := ⟨by rw [heap_setCell_other _ _ _ _ hn]; exact h.obj⟩
theorem bel_new (w : World) (o : Obj) : Below w.heap.size w (w.alloc o) := (Below.refl _ _).alloc (Nat.le_refl _) _
theorem size_new (w : World) (o : Obj) : (w.alloc o).heap.size = w.heap.size + 1 := by simp

theorem results_cell_tmp' {P : Program} {fn : Func} {p u : Tmp} {ty : TypeId} (h : fn.results = #[.cell p ty, .tmp u]) (tmps : Array Value) (w : World) (g : Nat) (t : TypeId) (cs : Array Value) (fr : Nat × Nat) (d : TypeDesc)
    (hp : tmps.getD p undef = .pointer (some ⟨g, 0, none⟩)) (hg : w.heap[g]? = some (.cells cs t fr))
    (hu : P.underlying ty = some d) (hd : (match d with | .struct _ | .array _ _ => true | _ => false) = true) (hi : (P.info? ty).map (·.size) = some cs.size) :
    (results fn tmps).run P w = .ok (.tuple #[.agg cs, tmps.getD u undef]) w := by
  have hp' : tmps[p]?.getD undef = .pointer (some ⟨g, 0, none⟩) := by simpa using hp
  simp [results, h, hp', asAddr, run_loadVar_row w g t ty cs fr d hg hu hd hi]
theorem infoCh : (Try.prog.info? 28).map (·.size) = some 3 := by kernel_rfl

/-- A child written at a place of a block. -/
def sto3 (u : World) (g o : Nat) (z0 z1 z2 : Int) : World := ((u.setCell ⟨g, o, none⟩ (.int .i64 z0)).setCell ⟨g, o + 1, none⟩ (.int .i64 z1)).setCell ⟨g, o + 2, none⟩ (.int .i64 z2)
theorem below_sto3 {B : Nat} {w u : World} {g : Nat} (h : Below B w u) (hg : B ≤ g) (o : Nat) (z0 z1 z2 : Int) : Below B w (sto3 u g o z0 z1 z2) := ((h.setCell (p := ⟨g, o, none⟩) hg _).setCell (p := ⟨g, o + 1, none⟩) hg _).setCell (p := ⟨g, o + 2, none⟩) hg _
theorem mcs_set3 {l : List (List Int)} (h : ∀ y ∈ l, y.length = 3) {j : Nat} (hj : j < l.length) (z0 z1 z2 : Int) : mcs (l.set j [z0, z1, z2]) = (((mcs l).set (j * 3) (.int .i64 z0)).set (j * 3 + 1) (.int .i64 z1)).set (j * 3 + 2) (.int .i64 z2) := by
  induction l generalizing j with
  | nil => simp at hj
  | cons x l ih =>
    have hx := h x (by simp)
    match x, hx with
    | [a, b, c], _ =>
      cases j with
      | zero => simp [mcs_cons]
      | succ j =>
        rw [List.set_cons_succ, mcs_cons, mcs_cons, ih (fun y hy => h y (by simp [hy])) (by simpa using hj), show (j + 1) * 3 = j * 3 + 3 by omega]
        simp only [List.map_cons, List.map_nil, List.cons_append, List.nil_append, show j * 3 + 3 + 1 = j * 3 + 1 + 3 by omega, show j * 3 + 3 + 2 = j * 3 + 2 + 3 by omega, List.set_cons_succ]
theorem OwM.sto3 {e : Nat} {w u : World} {g n c : Nat} {l : List (List Int)} (h : OwM 3 e w u (.slice (some ⟨g, 0, none⟩) n c) l) (hn : l.length = n) {j : Nat} (hj : j < n) (z0 z1 z2 : Int) : OwM 3 e w (sto3 u g (j * 3) z0 z1 z2) (.slice (some ⟨g, 0, none⟩) n c) (l.set j [z0, z1, z2]) := by
  have h1 := h.own
  rw [hn] at h1
  have hg := (h1.lt g rfl).1
  have h2 := (h1.stored (j * 3) (.int .i64 z0)).1
  have h3 := (h2.stored (j * 3 + 1) (.int .i64 z1)).1
  have h4 := (h3.stored (j * 3 + 2) (.int .i64 z2)).1
  refine ⟨by rw [List.length_set, hn, mcs_set3 h.size (by omega)]; exact h4, below_sto3 h.bel hg _ _ _ _, fun y hy => ?_⟩
  rcases List.mem_or_eq_of_mem_set hy with hy | rfl
  · exact h.size y hy
  · rfl
theorem OwM.fz {m e : Nat} {w u : World} {g n c : Nat} {l : List (List Int)} (h : OwM m e w u (.slice (some ⟨g, 0, none⟩) n c) l) (hn : l.length = n) (k : Nat) : u.frozen? ⟨g, k, none⟩ = false := by
  have h1 := h.own
  rw [hn] at h1
  exact h1.frozenAt k
/-- Where it has an element it lies in a block of its own. -/
theorem OwM.plain {m e : Nat} {w u : World} {v : Value} {l : List (List Int)} (h : OwM m e w u v l) (hl : 0 < l.length) : ∃ g c, v = .slice (some ⟨g, 0, none⟩) l.length c ∧ w.heap.size ≤ g ∧ g < u.heap.size ∧ l.length ≤ c ∧ c ≤ maxLen := by
  rcases h.own.2 with ⟨rfl, h0⟩ | ⟨g, cap, cur, rfl, hb, hg, hn, hm, _, _⟩
  · omega
  · exact ⟨g, cap, rfl, hb, (Array.getElem?_eq_some_iff.1 hg).1, hn, hm⟩

/-- What Find answers. -/
def FndV (k : Int) (l : List (List Int)) (v : Value) (b : Bool) : Prop := match fnd k l with
  | some y => v = .agg (y.map (Value.int .i64)).toArray ∧ b = true
  | none => v = .agg #[.int .i64 0, .int .i64 0, .int .i64 0] ∧ b = false

set_option maxRecDepth 100000 in
theorem idxfn_any (k : Int) (w : World) (q : Nat) (hq : w.cell? ⟨q, 0, none⟩ = some (.int .i64 k)) (z0 z1 z2 : Int) (u : World) (hu : Below w.heap.size w u) :
    Calls Try.prog 39 (#[.agg #[.int .i64 z0, .int .i64 z1, .int .i64 z2]] ++ #[.pointer (some ⟨q, 0, none⟩)]) u fun e w' => e = .returned (.bool (z0 == k)) ∧ Below u.heap.size u w' := by
  have hlt := World.block_lt_of_cell? w _ hq
  have hc : u.cell? ⟨q, 0, none⟩ = some (.int .i64 k) := by rw [hu.cell hlt]; exact hq
  have hb := bel_new u (.cells #[.int .i64 z0, .int .i64 z1, .int .i64 z2] 28)
  have hc2 : (u.alloc (.cells #[.int .i64 z0, .int .i64 z1, .int .i64 z2] 28)).cell? ⟨q, 0, none⟩ = some (.int .i64 k) := by rw [hb.cell (World.block_lt_of_cell? u _ hc)]; exact hc
  have HB := hid hb
  clear hb hu
  go_enter Try.func39, Try.ntmps39
  go_wp2
  go_ret
  exact ⟨rfl, HB.out⟩

set_option maxRecDepth 100000 in
set_option maxHeartbeats 1000000 in
theorem cindexfunc_any (a : Option Addr) (n c : Nat) (l : List (List Int)) (k : Int) (q : Nat) (w : World) (h : RdM 3 w a n c l) (hq : w.cell? ⟨q, 0, none⟩ = some (.int .i64 k)) :
    Calls Try.prog 38 #[.slice a n c, .func (.func 39) #[] #[.pointer (some ⟨q, 0, none⟩)]] w fun e w' => e = .returned (.int .i64 (ixI k l)) ∧ Below w.heap.size w w' := by
  have HL := hid h.len
  have hs := h.small
  have H := hid h
  have eg := enters_of Try.func39 (by kernel_rfl) rfl
  have HP := hid (fun z0 z1 z2 u hu => idxfn_any k w q hq z0 z1 z2 u hu)
  clear h hq
  go_enter Try.func38, Try.ntmps38
  go_wp2
  go_loopw [8] (fun i wr => ∃ j : Nat, i = .int .i64 j ∧ j ≤ n ∧ (∀ i y, i < j → l[i]? = some y → hd y ≠ k) ∧ RowKit.Below w.heap.size w wr) (fun i _ => n - (numOf i).toNat)
  case atStart => exact ⟨0, rfl, by omega, fun k r hk => absurd hk (by omega), Below.refl _ _⟩
  case round =>
    obtain ⟨j, rfl, hj, hN, hb⟩ := hrel
    have HN := hid hN
    have HB := hid hb
    clear hN hb
    by_cases hgo : j < n
    · have e1 : decide ((j : Int) < n) = true := decide_eq_true (by omega)
      obtain ⟨b, off, z0, z1, z2, rfl, _, hr, c0, c1, c2⟩ := (H.out.on HB.out).el3 hgo
      have CP := hid (HP.out z0 z1 z2 wr HB.out)
      have HR := hid hr
      have e3 : (j : Int) < n := by omega
      clear hr
      cases hq : (z0 == k)
      · rw [hq] at CP
        have HN2 : Hid (∀ i x, i < j + 1 → l[i]? = some x → hd x ≠ k) := fun i x hi hx => by
          rcases Nat.lt_or_ge i j with h | h
          · exact HN.out i x h hx
          · obtain rfl : i = j := by omega
            rw [HR.out] at hx
            cases hx
            rw [hd3]; simpa using hq
        clear hq
        go_wp2_with fail
        refine CP.out.mono ?_
        rintro e w2 ⟨rfl, hb2⟩
        have HB2 := hid (Below.on HB.out hb2)
        clear hb2
        go_wp2
        go_roundw
        case rel => exact ⟨j + 1, by go_num, by omega, HN2.out, HB2.out⟩
        case measure => simp [numOf]; omega
      · rw [hq] at CP
        have HI : Hid (ixI k l = j) := by
          rw [Hid, ixI, ixf_drop HN.out, drop_at' HR.out, ixf, if_pos (by rw [hd3]; simpa using hq)]
          simp
        clear hq
        go_wp2_with fail
        refine CP.out.mono ?_
        rintro e w2 ⟨rfl, hb2⟩
        have HB2 := hid (Below.on HB.out hb2)
        clear hb2
        go_wp2
        go_ret
        rw [HI.out]
        exact ⟨rfl, HB2.out⟩
    · have e1 : decide ((j : Int) < n) = false := decide_eq_false (by omega)
      have HI : Hid (ixI k l = -1) := by
        rw [Hid, ixI, ixf_drop HN.out, List.drop_eq_nil_of_le (by rw [HL.out]; omega)]
        rfl
      go_wp2
      go_ret
      rw [HI.out]
      exact ⟨rfl, HB.out⟩

set_option maxRecDepth 100000 in
theorem index_any (a : Option Addr) (n c : Nat) (l : List (List Int)) (k : Int) (w : World) (h : RdM 3 w a n c l) :
    Calls Try.prog 28 #[.slice a n c, .int .i64 k] w fun e w' => e = .returned (.int .i64 (ixI k l)) ∧ Below w.heap.size w w' := by
  have hb := bel_new w (.cells #[.int .i64 k] 3)
  have CI := hid (cindexfunc_any a n c l k w.heap.size _ (h.on hb) ((bk_new w #[.int .i64 k] 3).cell 0))
  have HB := hid hb
  clear h hb
  go_enter Try.func28, Try.ntmps28
  go_wp2_with fail
  refine CI.out.mono ?_
  rintro e w2 ⟨rfl, hb2⟩
  have HB2 := hid (Below.on HB.out hb2)
  clear hb2
  go_wp2
  go_ret
  exact ⟨rfl, HB2.out⟩
end Go.Proofs.Ytcdflegfjannmaa
