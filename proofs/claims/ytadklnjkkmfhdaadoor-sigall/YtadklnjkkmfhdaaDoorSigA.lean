/- sig.at at both its instances, over any table of eighteen lists: beyond the table, beyond the list, an entry. -/
import Derived.Test.YtadklnjkkmfhdaaDoorLibE
import Derived.Test.YtadklnjkkmfhdaaDoorLibT
namespace Go.Proofs.YtadklnjkkmfhdaaDoor
open Go Go.RowKit

/-- A list's header: where it lies, how many, how many there is room for. -/
abbrev Hd := Option Addr × Nat × Nat
def hd (y : Hd) : Value := .slice y.1 y.2.1 y.2.2

theorem len18 {α : Type} {l : List α} (h : l.length = 18) : ∃ y0 y1 y2 y3 y4 y5 y6 y7 y8 y9 y10 y11 y12 y13 y14 y15 y16 y17, l = [y0, y1, y2, y3, y4, y5, y6, y7, y8, y9, y10, y11, y12, y13, y14, y15, y16, y17] := by
  match l, h with
  | [y0, y1, y2, y3, y4, y5, y6, y7, y8, y9, y10, y11, y12, y13, y14, y15, y16, y17], _ => exact ⟨y0, y1, y2, y3, y4, y5, y6, y7, y8, y9, y10, y11, y12, y13, y14, y15, y16, y17, rfl⟩

theorem tab_cell (l : List Hd) (e : TypeId) (w : World) (k : Nat) (y : Hd) (hy : l[k]? = some y) :
    (w.alloc (.cells (l.map hd).toArray e)).cell? ⟨w.heap.size, k, none⟩ = some (.slice y.1 y.2.1 y.2.2) := by
  rw [World.cell?_alloc_at _ _ _ _ rfl]
  show (l.map hd).toArray[k]? = some (.slice y.1 y.2.1 y.2.2)
  rw [List.getElem?_toArray, List.getElem?_map, hy]
  rfl

theorem below1 (w : World) (b : Obj) : Below w.heap.size w (w.alloc b) := (Below.refl w.heap.size w).alloc (Nat.le_refl _) b
theorem below2 (w : World) (b c : Obj) : Below w.heap.size w ((w.alloc b).alloc c) := (below1 w b).trans ((Below.refl w.heap.size _).alloc (by rw [size_alloc]; omega) c)

theorem tab_cell2 (l : List Hd) (e : TypeId) (w : World) (k : Nat) (y : Hd) (hy : l[k]? = some y) (c : Obj) :
    ((w.alloc (.cells (l.map hd).toArray e)).alloc c).cell? ⟨w.heap.size, k, none⟩ = some (.slice y.1 y.2.1 y.2.2) := by
  rw [(below1 (w.alloc (.cells (l.map hd).toArray e)) c).cell (by show w.heap.size < _; rw [size_alloc]; omega)]
  exact tab_cell l e w k y hy

set_option maxRecDepth 100000 in
theorem atReq_far (l : List Hd) (hl : l.length = 18) (f o : Int) (w : World) (hf : f < 0 ∨ 18 ≤ f) :
    Calls Tryd.prog 26 #[.agg (l.map hd).toArray, .int .i64 f, .int .i64 o] w fun e w' => e = .returned (.tuple #[.agg #[.string ⟨#[]⟩, .int .i64 0, .bool false], .bool false]) ∧ Below w.heap.size w w' := by
  obtain ⟨y0, y1, y2, y3, y4, y5, y6, y7, y8, y9, y10, y11, y12, y13, y14, y15, y16, y17, rfl⟩ := len18 hl
  simp only [List.map_cons, List.map_nil, hd]
  clear hl
  go_enter Tryd.func26, Tryd.ntmps26
  by_cases h1 : f < 0
  · have h1' : decide (f < 0) = true := decide_eq_true h1
    go_wp2
    refine bodyPost_ret (v := .tuple #[.agg #[.string ⟨#[]⟩, .int .i64 0, .bool false], .bool false]) ?_ rfl ⟨rfl, below2 _ _ _⟩
    simp [results, Tryd.results26, go_sem]
  · have h2 : 18 ≤ f := by omega
    have h1' : decide (f < 0) = false := decide_eq_false h1
    have h2' : decide (18 ≤ f) = true := decide_eq_true h2
    go_wp2
    refine bodyPost_ret (v := .tuple #[.agg #[.string ⟨#[]⟩, .int .i64 0, .bool false], .bool false]) ?_ rfl ⟨rfl, below2 _ _ _⟩
    simp [results, Tryd.results26, go_sem]

set_option maxRecDepth 100000 in
theorem atReq_none (l : List Hd) (hl : l.length = 18) (k : Nat) (hk : k < 18) (y : Hd) (hy : l[k]? = some y) (o : Int) (w : World) (ho : o < 0 ∨ y.2.1 ≤ o) :
    Calls Tryd.prog 26 #[.agg (l.map hd).toArray, .int .i64 k, .int .i64 o] w fun e w' => e = .returned (.tuple #[.agg #[.string ⟨#[]⟩, .int .i64 0, .bool false], .bool false]) ∧ Below w.heap.size w w' := by
  have hc := tab_cell2 l 53 w k y hy (.cells #[.string ⟨#[]⟩, .int .i64 0, .bool false] 40)
  obtain ⟨yp, yn, yc⟩ := y
  obtain ⟨y0, y1, y2, y3, y4, y5, y6, y7, y8, y9, y10, y11, y12, y13, y14, y15, y16, y17, rfl⟩ := len18 hl
  simp only [List.map_cons, List.map_nil, hd] at hc ⊢
  simp only at ho
  clear hl hy
  go_enter Tryd.func26, Tryd.ntmps26
  have h1' : decide ((k : Int) < 0) = false := decide_eq_false (by omega)
  have h2' : decide (18 ≤ (k : Int)) = false := decide_eq_false (by omega)
  have h2 : (k : Int) < 18 := by omega
  by_cases h3 : o < 0
  · have h3' : decide (o < 0) = true := decide_eq_true h3
    go_wp2
    refine bodyPost_ret (v := .tuple #[.agg #[.string ⟨#[]⟩, .int .i64 0, .bool false], .bool false]) ?_ rfl ⟨rfl, below2 _ _ _⟩
    simp [results, Tryd.results26, go_sem]
  · have h4 : (yn : Int) ≤ o := by omega
    have h3' : decide (o < 0) = false := decide_eq_false h3
    have h4' : decide ((yn : Int) ≤ o) = true := decide_eq_true h4
    go_wp2
    refine bodyPost_ret (v := .tuple #[.agg #[.string ⟨#[]⟩, .int .i64 0, .bool false], .bool false]) ?_ rfl ⟨rfl, below2 _ _ _⟩
    simp [results, Tryd.results26, go_sem]

set_option maxRecDepth 100000 in
theorem atReq_some (l : List Hd) (hl : l.length = 18) (k : Nat) (hk : k < 18) (B n c : Nat) (hy : l[k]? = some (some ⟨B, 0, none⟩, n, c)) (j : Nat) (w : World) (hj : j < n) (s : ByteArray) (m : Int) (b : Bool) (c0 : w.cell? ⟨B, j * 3, none⟩ = some (.string s)) (c1 : w.cell? ⟨B, j * 3 + 1, none⟩ = some (.int .i64 m)) (c2 : w.cell? ⟨B, j * 3 + 2, none⟩ = some (.bool b)) :
    Calls Tryd.prog 26 #[.agg (l.map hd).toArray, .int .i64 k, .int .i64 j] w fun e w' => e = .returned (.tuple #[.agg #[.string s, .int .i64 m, .bool b], .bool true]) ∧ Below w.heap.size w w' := by
  have hc := tab_cell2 l 53 w k _ hy (.cells #[.string ⟨#[]⟩, .int .i64 0, .bool false] 40)
  have hB : B < w.heap.size := World.block_lt_of_cell? w _ c0
  obtain ⟨y0, y1, y2, y3, y4, y5, y6, y7, y8, y9, y10, y11, y12, y13, y14, y15, y16, y17, rfl⟩ := len18 hl
  simp only [List.map_cons, List.map_nil, hd] at hc ⊢
  clear hl hy
  go_enter Tryd.func26, Tryd.ntmps26
  have h1' : decide ((k : Int) < 0) = false := decide_eq_false (by omega)
  have h2' : decide (18 ≤ (k : Int)) = false := decide_eq_false (by omega)
  have h2 : (k : Int) < 18 := by omega
  have h3' : decide ((j : Int) < 0) = false := decide_eq_false (by omega)
  have h4' : decide (n ≤ j) = false := decide_eq_false (by omega)
  have h4 : (j : Int) < (n : Int) := by omega
  go_wp2
  refine bodyPost_ret (v := .tuple #[.agg #[.string s, .int .i64 m, .bool b], .bool true]) ?_ rfl ⟨rfl, below2 _ _ _⟩
  simp [results, Tryd.results26, go_sem]

set_option maxRecDepth 100000 in
theorem atStr_far (l : List Hd) (hl : l.length = 18) (f o : Int) (w : World) (hf : f < 0 ∨ 18 ≤ f) :
    Calls Tryd.prog 27 #[.agg (l.map hd).toArray, .int .i64 f, .int .i64 o] w fun e w' => e = .returned (.tuple #[.string ⟨#[]⟩, .bool false]) ∧ Below w.heap.size w w' := by
  obtain ⟨y0, y1, y2, y3, y4, y5, y6, y7, y8, y9, y10, y11, y12, y13, y14, y15, y16, y17, rfl⟩ := len18 hl
  simp only [List.map_cons, List.map_nil, hd]
  clear hl
  go_enter Tryd.func27, Tryd.ntmps27
  by_cases h1 : f < 0
  · have h1' : decide (f < 0) = true := decide_eq_true h1
    go_wp2
    go_ret2
    exact ⟨rfl, below1 _ _⟩
  · have h2 : 18 ≤ f := by omega
    have h1' : decide (f < 0) = false := decide_eq_false h1
    have h2' : decide (18 ≤ f) = true := decide_eq_true h2
    go_wp2
    go_ret2
    exact ⟨rfl, below1 _ _⟩

set_option maxRecDepth 100000 in
theorem atStr_none (l : List Hd) (hl : l.length = 18) (k : Nat) (hk : k < 18) (y : Hd) (hy : l[k]? = some y) (o : Int) (w : World) (ho : o < 0 ∨ y.2.1 ≤ o) :
    Calls Tryd.prog 27 #[.agg (l.map hd).toArray, .int .i64 k, .int .i64 o] w fun e w' => e = .returned (.tuple #[.string ⟨#[]⟩, .bool false]) ∧ Below w.heap.size w w' := by
  have hc := tab_cell l 55 w k y hy
  obtain ⟨yp, yn, yc⟩ := y
  obtain ⟨y0, y1, y2, y3, y4, y5, y6, y7, y8, y9, y10, y11, y12, y13, y14, y15, y16, y17, rfl⟩ := len18 hl
  simp only [List.map_cons, List.map_nil, hd] at hc ⊢
  simp only at ho
  clear hl hy
  go_enter Tryd.func27, Tryd.ntmps27
  have h1' : decide ((k : Int) < 0) = false := decide_eq_false (by omega)
  have h2' : decide (18 ≤ (k : Int)) = false := decide_eq_false (by omega)
  have h2 : (k : Int) < 18 := by omega
  by_cases h3 : o < 0
  · have h3' : decide (o < 0) = true := decide_eq_true h3
    go_wp2
    go_ret2
    exact ⟨rfl, below1 _ _⟩
  · have h4 : (yn : Int) ≤ o := by omega
    have h3' : decide (o < 0) = false := decide_eq_false h3
    have h4' : decide ((yn : Int) ≤ o) = true := decide_eq_true h4
    go_wp2
    go_ret2
    exact ⟨rfl, below1 _ _⟩

set_option maxRecDepth 100000 in
theorem atStr_some (l : List Hd) (hl : l.length = 18) (k : Nat) (hk : k < 18) (B n c : Nat) (hy : l[k]? = some (some ⟨B, 0, none⟩, n, c)) (j : Nat) (w : World) (hj : j < n) (s : ByteArray) (c0 : w.cell? ⟨B, j, none⟩ = some (.string s)) :
    Calls Tryd.prog 27 #[.agg (l.map hd).toArray, .int .i64 k, .int .i64 j] w fun e w' => e = .returned (.tuple #[.string s, .bool true]) ∧ Below w.heap.size w w' := by
  have hc := tab_cell l 55 w k _ hy
  have hB : B < w.heap.size := World.block_lt_of_cell? w _ c0
  obtain ⟨y0, y1, y2, y3, y4, y5, y6, y7, y8, y9, y10, y11, y12, y13, y14, y15, y16, y17, rfl⟩ := len18 hl
  simp only [List.map_cons, List.map_nil, hd] at hc ⊢
  clear hl hy
  go_enter Tryd.func27, Tryd.ntmps27
  have h1' : decide ((k : Int) < 0) = false := decide_eq_false (by omega)
  have h2' : decide (18 ≤ (k : Int)) = false := decide_eq_false (by omega)
  have h2 : (k : Int) < 18 := by omega
  have h3' : decide ((j : Int) < 0) = false := decide_eq_false (by omega)
  have h4' : decide (n ≤ j) = false := decide_eq_false (by omega)
  have h4 : (j : Int) < (n : Int) := by omega
  go_wp2
  go_ret2
  exact ⟨rfl, below1 _ _⟩
end Go.Proofs.YtadklnjkkmfhdaaDoor
