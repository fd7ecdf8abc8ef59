/- Rows of messages; the contract of the program's reader.first. -/
import Derived.Test.YtfbebifbfpkdaaaDoorRdrC
namespace Go.Proofs.YtfbebifbfpkdaaaDoor
open Go Go.RowKit

theorem conv_none (w : World) (x : Addr) (c : Nat) : (convert 26 9 (.slice (some x) 0 c)).run Tryd.prog w = .ok (.string ⟨#[]⟩) w := by
  have hl : (loadCells x 0).run Tryd.prog w = .ok (([] : List Int).map (Value.int .u8)).toArray w := run_loadCells_list (P := Tryd.prog) w x [] (fun j v hj => by simp at hj)
  rw [run_convert_bytes_string w 26 9 5 _ 0 c Tryd.underlying26 Tryd.underlying5 Tryd.underlying9, run_bytesToString w _ 0 c _ hl]
  rfl

theorem conv_window {w : World} {b off : Nat} {l : List UInt8} (hc : ∀ j (hj : j < l.length), w.cell? ⟨b, off + j, none⟩ = some (.int .u8 (l[j].toNat : Int))) (i v : Nat) (h : i + v ≤ l.length) (q c' : Nat) :
    (convert 26 9 (.slice (some ⟨b, off + i, none⟩) v c')).run Tryd.prog (w.drewN q) = .ok (.string ⟨((l.drop i).take v).toArray⟩) (w.drewN q) := by
  have hlen : ((l.drop i).take v).length = v := by rw [List.length_take, List.length_drop]; omega
  have hl : (loadCells ⟨b, off + i, none⟩ v).run Tryd.prog (w.drewN q) = .ok ((((l.drop i).take v).map fun b => (b.toNat : Int)).map (Value.int .u8)).toArray (w.drewN q) := by
    have := run_loadCells_list (P := Tryd.prog) (w.drewN q) ⟨b, off + i, none⟩ (bc ((l.drop i).take v)) (fun j u hu => by
      have hj : j < v := by
        rcases Nat.lt_or_ge j v with h' | h'
        · exact h'
        · rw [List.getElem?_eq_none (by rw [bc_length, hlen]; exact h')] at hu; cases hu
      rw [Go.WideShapes.add_plain, Nat.add_assoc]
      have hcell := hc (i + j) (by omega)
      rw [bc, List.getElem?_map, List.getElem?_take_of_lt hj, List.getElem?_drop, List.getElem?_eq_getElem (by omega)] at hu
      rw [← hu]
      simpa using hcell)
    rw [bc_length, hlen] at this
    rw [this, bc, List.map_map]
    rfl
  rw [run_convert_bytes_string _ 26 9 5 _ v c' Tryd.underlying26 Tryd.underlying5 Tryd.underlying9, run_bytesToString _ _ v c' _ hl, foldl_push_bytes, map_ofNat_toNat]
  simp [ByteArray.empty, ByteArray.emptyWithCapacity]
  rfl

theorem hid {p : Prop} (h : p) : Hid p := h

/-- A message's cells. -/
def rc (x : RV) : List Value := [.int .i64 x.o, .int .i64 x.p, .string x.s]
def rcs (l : List RV) : List Value := l.flatMap rc

theorem rcs_length (l : List RV) : (rcs l).length = l.length * 3 := by
  induction l with
  | nil => rfl
  | cons x l ih =>
    rw [rcs, List.flatMap_cons, List.length_append, List.length_cons]
    show 3 + (rcs l).length = _
    omega
theorem rcs_append (a b : List RV) : rcs (a ++ b) = rcs a ++ rcs b := by simp [rcs]
theorem rcs_one (l : List RV) : ∀ u ∈ rcs l, u.oneCell' = true := by
  intro u hu
  obtain ⟨x, _, hx⟩ := List.mem_flatMap.1 hu
  simp only [rc, List.mem_cons, List.not_mem_nil, or_false] at hx
  rcases hx with rfl | rfl | rfl <;> rfl
theorem rc_one (x : RV) : ∀ u ∈ rc x, u.oneCell' = true := by
  have := rcs_one [x]
  rwa [show rcs [x] = rc x from List.append_nil _] at this

theorem rcs_at (l : List RV) (j : Nat) (x : RV) (h : l[j]? = some x) : (rcs l)[j * 3]? = some (.int .i64 x.o) ∧ (rcs l)[j * 3 + 1]? = some (.int .i64 x.p) ∧ (rcs l)[j * 3 + 2]? = some (.string x.s) := by
  induction l generalizing j with
  | nil => simp at h
  | cons y l ih =>
    have e : rcs (y :: l) = .int .i64 y.o :: .int .i64 y.p :: .string y.s :: rcs l := rfl
    cases j with
    | zero =>
      simp only [List.getElem?_cons_zero, Option.some.injEq] at h
      subst h
      rw [e]
      exact ⟨rfl, rfl, rfl⟩
    | succ j =>
      obtain ⟨h1, h2, h3⟩ := ih j (by simpa using h)
      rw [e, show (j + 1) * 3 = j * 3 + 1 + 1 + 1 by omega]
      simp only [List.getElem?_cons_succ]
      exact ⟨h1, h2, h3⟩

/-- A slice whose first n elements are the messages l. -/
structure RdR (w : World) (a : Option Addr) (n c : Nat) (l : List RV) : Prop where
  len : l.length = n
  le : n ≤ c
  max : c ≤ maxLen
  hnil : a = none → c = 0
  cells : ∀ x, a = some x → ∀ j u, (rcs l)[j]? = some u → w.cell? (x.add j) = some u

theorem RdR.nil (w : World) : RdR w none 0 0 [] := ⟨rfl, Nat.le_refl _, Nat.zero_le _, fun _ => rfl, fun _ h => by cases h⟩

theorem RdR.plain {w : World} {a : Option Addr} {n c : Nat} {l : List RV} (h : RdR w a n c l) (hn : 0 < n) : ∃ b off, a = some ⟨b, off, none⟩ ∧ b < w.heap.size ∧
    ∀ j x, l[j]? = some x → w.cell? ⟨b, off + j * 3, none⟩ = some (.int .i64 x.o) ∧ w.cell? ⟨b, off + j * 3 + 1, none⟩ = some (.int .i64 x.p) ∧ w.cell? ⟨b, off + j * 3 + 2, none⟩ = some (.string x.s) := by
  cases a with
  | none => have := h.hnil rfl; have := h.le; omega
  | some x =>
    obtain ⟨b, off, spot⟩ := x
    have hl := h.len
    obtain ⟨y, hy⟩ : ∃ y, l[0]? = some y := ⟨_, List.getElem?_eq_getElem (by omega)⟩
    have h0 := h.cells _ rfl 0 _ (rcs_at l 0 y hy).1
    have hspot : spot = none := by simpa [Addr.add] using World.cell?_spot h0
    subst hspot
    refine ⟨b, off, rfl, World.block_lt_of_cell? w _ (by simpa [Addr.add] using h0), fun j x hx => ?_⟩
    obtain ⟨h1, h2, h3⟩ := rcs_at l j x hx
    have e1 := h.cells _ rfl _ _ h1
    have e2 := h.cells _ rfl _ _ h2
    have e3 := h.cells _ rfl _ _ h3
    rw [Go.WideShapes.add_plain] at e1 e2 e3
    exact ⟨e1, e2, e3⟩

theorem RdR.low {w : World} {a : Option Addr} {n c : Nat} {l : List RV} (h : RdR w a n c l) : ∀ x, a = some x → 0 < l.length → x.block < w.heap.size := fun x hx hl => by
  have hl' := h.len
  obtain ⟨b, off, rfl, hb, _⟩ := h.plain (by omega)
  cases hx
  exact hb

/-- Where its blocks stay, it stays. -/
theorem RdR.kept {w w' : World} {a : Option Addr} {n c : Nat} {l : List RV} (h : RdR w a n c l) (hb : ∀ x, a = some x → 0 < l.length → w'.heap[x.block]? = w.heap[x.block]?) : RdR w' a n c l :=
  ⟨h.len, h.le, h.max, h.hnil, fun x hx j u hu => by
    have hj : j < l.length * 3 := by
      rcases Nat.lt_or_ge j (l.length * 3) with h' | h'
      · exact h'
      · rw [List.getElem?_eq_none (by rw [rcs_length]; exact h')] at hu; cases hu
    rw [World.cell?_of_block (w := w) (a := x.add j) (by have := hb x hx (by omega); unfold Addr.add; split <;> simpa using this)]
    exact h.cells x hx j u hu⟩

theorem Rd.kept {w w' : World} {a : Option Addr} {n c : Nat} {l : List UInt8} (h : Rd w a n c l) (hb : ∀ x, a = some x → 0 < l.length → w'.heap[x.block]? = w.heap[x.block]?) : Rd w' a n c l :=
  ⟨h.len, h.le, h.max, h.hnil, fun x hx j u hu => by
    have hj : j < l.length := by
      rcases Nat.lt_or_ge j l.length with h' | h'
      · exact h'
      · rw [List.getElem?_eq_none (by rw [bc_length]; exact h')] at hu; cases hu
    rw [World.cell?_of_block (w := w) (a := x.add j) (by have := hb x hx (by omega); unfold Addr.add; split <;> simpa using this)]
    exact h.cells x hx j u hu⟩

/-- What is appended by 'append(x, l...)'. -/
theorem RdR.src {P : Program} {w : World} {a : Option Addr} {n c : Nat} {l : List RV} (h : RdR w a n c l) {t e : TypeId} (ht : P.underlying t = some (.slice e)) : Src P 3 t (.slice a n c) n (rcs l) w := by
  cases a with
  | none =>
    have h1 := h.hnil rfl
    have h2 := h.le
    have h3 := h.len
    obtain rfl : n = 0 := by omega
    obtain rfl : l = [] := List.eq_nil_of_length_eq_zero h3
    exact Src.ofNil w ht c
  | some x => exact Src.ofSlice w ht x n c (rcs l) (by rw [rcs_length, h.len]) (h.cells x rfl) (rcs_one l)

theorem rdr_of_owns {w : World} {base e n : Nat} {v : Value} {l : List RV} (h : w.ownsRow base e 3 v n (rcs l)) : ∃ a c, v = .slice a n c ∧ RdR w a n c l ∧ (∀ x, a = some x → base ≤ x.block ∧ x.block < w.heap.size) := by
  have hl : l.length = n := by have := h.1; rw [rcs_length] at this; omega
  rcases h.2 with ⟨rfl, rfl⟩ | ⟨g, cap, cur, rfl, hb, hg, hn, hm, _, _⟩
  · obtain rfl : l = [] := List.eq_nil_of_length_eq_zero hl
    exact ⟨none, 0, rfl, RdR.nil w, fun x hx => by cases hx⟩
  · refine ⟨some ⟨g, 0, none⟩, cap, rfl, ⟨hl, hn, hm, (fun h => by cases h), fun x hx => ?_⟩, fun x hx => ?_⟩
    · cases hx
      exact h.cells rfl
    · cases hx
      exact ⟨hb, (Array.getElem?_eq_some_iff.1 hg).1⟩

/-- first's answer. -/
def fR (l : List UInt8) : RV := if fE l = 0 then fM l else ⟨0, 0, ⟨#[]⟩⟩
def fN (l : List UInt8) : Nat := if fE l = 0 then hdS l else 0

def raw0 (w : World) : World := w.alloc (.cells #[.int .i64 0, .int .i64 0, .string ⟨#[]⟩] 46)

theorem below_raw0 (w : World) (q : Nat) : Below w.heap.size w ((raw0 w).drewN q) := below_drewN ((Below.refl _ _).alloc (Nat.le_refl _) _) q

theorem below_raw3 (w : World) (q : Nat) (x y z : Value) : Below w.heap.size w (((((raw0 w).drewN q).setCell ⟨w.heap.size, 0, none⟩ x).setCell ⟨w.heap.size, 1, none⟩ y).setCell ⟨w.heap.size, 2, none⟩ z) :=
  (((below_raw0 w q).setCell (p := ⟨w.heap.size, 0, none⟩) (Nat.le_refl _) _).setCell (p := ⟨w.heap.size, 1, none⟩) (Nat.le_refl _) _).setCell (p := ⟨w.heap.size, 2, none⟩) (Nat.le_refl _) _

theorem below_set3 {w u : World} (h : Below w.heap.size w u) (x y z : Value) : Below w.heap.size w (((u.setCell ⟨w.heap.size, 0, none⟩ x).setCell ⟨w.heap.size, 1, none⟩ y).setCell ⟨w.heap.size, 2, none⟩ z) :=
  ((h.setCell (p := ⟨w.heap.size, 0, none⟩) (Nat.le_refl _) _).setCell (p := ⟨w.heap.size, 1, none⟩) (Nat.le_refl _) _).setCell (p := ⟨w.heap.size, 2, none⟩) (Nat.le_refl _) _

set_option maxRecDepth 100000 in
theorem first_err (w : World) (a : Option Addr) (n c : Nat) (x : Addr)
    (H : Calls Tryd.prog 17 #[.slice a n c] (raw0 w) fun e w' => e = .returned (.tuple #[.int .i64 0, .int .i64 0, .int .i64 0, .iface 85 (.pointer (some x))]) ∧ ∃ q, w' = (raw0 w).drewN q) :
    Calls Tryd.prog 24 #[.slice a n c] w fun e w' => e = .returned (.tuple #[.agg #[.int .i64 0, .int .i64 0, .string ⟨#[]⟩], .int .i64 0, .iface 85 (.pointer (some x))]) ∧ Below w.heap.size w w' := by
  have H' := hid H
  clear H
  go_enter Tryd.func24, Tryd.ntmps24
  go_wp2_with fail
  refine H'.out.mono ?_
  rintro e w2 ⟨rfl, q, rfl⟩
  unfold raw0
  go_wp2
  refine bodyPost_ret (v := .tuple #[.agg #[.int .i64 0, .int .i64 0, .string ⟨#[]⟩], .int .i64 0, .iface 85 (.pointer (some x))]) ?_ rfl ⟨rfl, below_raw3 w q _ _ _⟩
  simp [results, Tryd.results24, go_sem]

set_option maxRecDepth 100000 in
theorem first_short (w : World) (a : Option Addr) (n c : Nat) (x : Addr) (hx : w.cell? ⟨1, 0, none⟩ = some (.iface 85 (.pointer (some x)))) (o p z : Nat) (hz : n < z)
    (H : Calls Tryd.prog 17 #[.slice a n c] (raw0 w) fun e w' => e = .returned (.tuple #[.int .i64 o, .int .i64 p, .int .i64 z, .nilIface]) ∧ ∃ q, w' = (raw0 w).drewN q) :
    Calls Tryd.prog 24 #[.slice a n c] w fun e w' => e = .returned (.tuple #[.agg #[.int .i64 0, .int .i64 0, .string ⟨#[]⟩], .int .i64 0, .iface 85 (.pointer (some x))]) ∧ Below w.heap.size w w' := by
  have H' : Hid (Calls Tryd.prog 17 #[.slice a n c] (raw0 w) fun e w' => e = .returned (.tuple #[.int .i64 o, .int .i64 p, .int .i64 z, .nilIface]) ∧ w'.heap[w.heap.size]? = some (.cells #[.int .i64 0, .int .i64 0, .string ⟨#[]⟩] 46 (0, 0)) ∧ Below w.heap.size w w') := by
    refine H.mono ?_
    rintro e w' ⟨rfl, q, rfl⟩
    exact ⟨rfl, heap_alloc_new w _, below_raw0 w q⟩
  have HX := hid hx
  clear H hx
  go_enter Tryd.func24, Tryd.ntmps24
  go_wp2_with fail
  refine H'.out.mono ?_
  rintro e u ⟨rfl, hu, hb⟩
  have hlt : 1 < w.heap.size := World.block_lt_of_cell? w _ HX.out
  have hxu : u.cell? ⟨1, 0, none⟩ = some (.iface 85 (.pointer (some x))) := by rw [hb.cell hlt]; exact HX.out
  have hcs : ∀ v, (u.setCell ⟨w.heap.size, 0, none⟩ v).cell? ⟨1, 0, none⟩ = some (.iface 85 (.pointer (some x))) := fun v => by
    rw [World.cell?_setCell_other _ _ _ _ (fun h => by have := congrArg Addr.block h; simp only at this; omega)]
    exact hxu
  have hn1 : ¬ w.heap.size = 1 := by omega
  have zl : w.heap.size < u.heap.size := (Array.getElem?_eq_some_iff.1 hu).1
  have z0 : u.cell? ⟨w.heap.size, 0, none⟩ = some (.int .i64 0) := by rw [World.cell?, hu]; rfl
  have z1 : u.cell? ⟨w.heap.size, 1, none⟩ = some (.int .i64 0) := by rw [World.cell?, hu]; rfl
  have z2 : u.cell? ⟨w.heap.size, 2, none⟩ = some (.string ⟨#[]⟩) := by rw [World.cell?, hu]; rfl
  have zf : ∀ k, u.frozen? ⟨w.heap.size, k, none⟩ = false := Lib.frozen_of_heap hu
  have HB := hid hb
  clear hb hu H' HX hlt
  go_wp2
  go_region
  all_goals
    go_wp2
    refine bodyPost_ret (v := .tuple #[.agg #[.int .i64 0, .int .i64 0, .string ⟨#[]⟩], .int .i64 0, .iface 85 (.pointer (some x))]) ?_ rfl ⟨rfl, ?_⟩
    · simp [results, Tryd.results24, go_sem, z0, z1, z2]
    · exact (below_set3 HB.out _ _ _).drew

set_option maxRecDepth 100000 in
theorem first_ok (w : World) (b off n c : Nat) (hnc : n ≤ c) (hn : n ≤ 1000000) (o p z : Nat) (hz8 : 8 ≤ z) (hz : z ≤ n) (s : ByteArray)
    (hcv : ∀ q c', (convert 26 9 (.slice (some ⟨b, off + 8, none⟩) (z - 8) c')).run Tryd.prog ((raw0 w).drewN q) = .ok (.string s) ((raw0 w).drewN q)) (hs0 : z = 8 → s = ⟨#[]⟩)
    (H : Calls Tryd.prog 17 #[.slice (some ⟨b, off, none⟩) n c] (raw0 w) fun e w' => e = .returned (.tuple #[.int .i64 o, .int .i64 p, .int .i64 z, .nilIface]) ∧ ∃ q, w' = (raw0 w).drewN q) :
    Calls Tryd.prog 24 #[.slice (some ⟨b, off, none⟩) n c] w fun e w' => e = .returned (.tuple #[.agg #[.int .i64 o, .int .i64 p, .string s], .int .i64 z, .nilIface]) ∧ Below w.heap.size w w' := by
  have H' := hid H
  have HC := hid hcv
  clear H hcv
  go_enter Tryd.func24, Tryd.ntmps24
  go_wp2_with fail
  refine H'.out.mono ?_
  rintro e w2 ⟨rfl, q, rfl⟩
  by_cases h8 : z = 8
  · obtain rfl := hs0 h8
    subst h8
    have hcv0 : ∀ q x c', (convert 26 9 (.slice (some x) 0 c')).run Tryd.prog ((raw0 w).drewN q) = .ok (.string ⟨#[]⟩) ((raw0 w).drewN q) := fun q x c' => conv_none _ _ _
    unfold raw0 at hcv0 ⊢
    go_wp2
    all_goals
      refine bodyPost_ret (v := .tuple #[.agg #[.int .i64 o, .int .i64 p, .string ⟨#[]⟩], .int .i64 8, .nilIface]) ?_ rfl ⟨rfl, below_raw3 w q _ _ _⟩
      simp [results, Tryd.results24, go_sem]
  · have hcv0 : ∀ q c', (convert 26 9 (.slice (some ⟨b, off + 8, none⟩) (z - 8) c')).run Tryd.prog ((raw0 w).drewN q) = .ok (.string s) ((raw0 w).drewN q) := fun q c' => HC.out _ _
    unfold raw0 at hcv0 ⊢
    go_wp2
    refine bodyPost_ret (v := .tuple #[.agg #[.int .i64 o, .int .i64 p, .string s], .int .i64 z, .nilIface]) ?_ rfl ⟨rfl, below_raw3 w q _ _ _⟩
    simp [results, Tryd.results24, go_sem]

theorem first_any (w : World) (a : Option Addr) (n c : Nat) (l : List UInt8) (hr : Rd w a n c l) (hn : n ≤ 1000000) (es : List Addr) (hE : E4 w es) :
    Calls Tryd.prog 24 #[.slice a n c] w fun e w' => e = .returned (.tuple #[.agg #[.int .i64 (fR l).o, .int .i64 (fR l).p, .string (fR l).s], .int .i64 (fN l : Nat), erv es (fE l)]) ∧ Below w.heap.size w w' := by
  have hb0 : Below w.heap.size w (raw0 w) := (Below.refl _ _).alloc (Nat.le_refl _) _
  have H := head_any (raw0 w) a n c l (hr.below hb0 (rd_low hr)) (by omega) es (hE.below hb0)
  have hl := hr.len
  by_cases h0 : hdE l = 0
  · obtain ⟨g1, g2, g3, g4⟩ := hdE_zero h0
    rw [h0] at H
    by_cases hs : l.length < hdS l
    · have e : fE l = 2 := by rw [fE, if_neg (by omega), if_pos hs]
      have e1 : fR l = ⟨0, 0, ⟨#[]⟩⟩ := by rw [fR, e]; rfl
      have e2 : fN l = 0 := by rw [fN, e]; rfl
      rw [e, e1, e2]
      exact first_short w a n c _ hE.short _ _ _ (by omega) H
    · have e : fE l = 0 := by rw [fE, if_neg (by omega), if_neg hs]
      obtain ⟨b, off, rfl, _, hc⟩ := hr.plain (by omega)
      have e1 : fR l = fM l := by rw [fR, if_pos e]
      have e2 : fN l = hdS l := by rw [fN, if_pos e]
      rw [e, e1, e2]
      refine first_ok w b off n c hr.le hn _ _ _ g3 (by omega) _ (fun q c' => ?_) (fun h8 => ?_) H
      · exact conv_window (w := raw0 w) (b := b) (off := off) (l := l) (fun j hj => by
          rw [hb0.cell (World.block_lt_of_cell? w _ (hc j hj))]
          exact hc j hj) 8 (hdS l - 8) (by omega) q c'
      · rw [fM, h8, List.take_zero]
  · have e : fE l = hdE l := by rw [fE, if_pos h0]
    have e1 : hdO l = 0 := by rw [hdO, if_neg h0]
    have e2 : hdP l = 0 := by rw [hdP, if_neg h0]
    have e3 : hdS l = 0 := by rw [hdS, if_neg h0]
    obtain ⟨k, hk⟩ : ∃ k, hdE l = k + 1 := ⟨hdE l - 1, by omega⟩
    have f1 : fR l = ⟨0, 0, ⟨#[]⟩⟩ := by rw [fR, e, if_neg h0]
    have f2 : fN l = 0 := by rw [fN, e, if_neg h0]
    rw [e1, e2, e3, hk] at H
    rw [f1, f2, e, hk]
    exact first_err w a n c _ H
end Go.Proofs.YtfbebifbfpkdaaaDoor
