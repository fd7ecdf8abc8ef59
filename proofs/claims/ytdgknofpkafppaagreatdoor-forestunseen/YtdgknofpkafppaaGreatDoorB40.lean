/- Lemmas that the proof leans on. -/
import Derived.Test.YtdgknofpkafppaaGreatDoorB39
namespace Go.Proofs.YtdgknofpkafppaaGreatDoor
open Go Go.RowKit
set_option maxRecDepth 100000
set_option maxHeartbeats 1000000
section
theorem bt1 : Bt 1 := ⟨by decide, by decide⟩
theorem bt2 : Bt 2 := ⟨by decide, by decide⟩
theorem fawake_any {es : List Addr} (w : World) (hE : Fe w es) (hn : 16 ≤ w.heap.size) : Calls Tryz.prog 6 #[] w fun e w' => e = .returned (.bool true) ∧ Below w.heap.size w w' := by
 obtain ⟨a1, a2, a3, a4, a5, a6, a7, a8⟩ := aw_facts
 have A1 := hid a1
 have A2 := hid a2
 have A3 := hid a3
 have A4 := hid a4
 have A5 := hid a5
 have A6 := hid a6
 have A7 := hid a7
 have A8 := hid a8
 have CN := hid (pg_new w w (Below.refl _ _) hE hn)
 clear a1 a2 a3 a4 a5 a6 a7 a8 hE hn
 go_enter Tryz.func6, Tryz.ntmps6
 go_wp2_with fail
 refine CN.out.mono ?_
 rintro e w1 ⟨p, rfl, hp1, -⟩
 have C1 := hid (hp1.add (by omega) 1 bt1)
 rw [A1.out] at C1
 clear hp1 CN
 go_wp2_with fail
 refine C1.out.mono ?_
 rintro e w2 ⟨rfl, hp2⟩
 have C2 := hid (hp2.add (by omega) 2 bt2)
 rw [A2.out] at C2
 rw [erv0]
 clear hp2 C1
 go_wp2_with fail
 refine C2.out.mono ?_
 rintro e w3 ⟨rfl, hp3⟩
 have C3 := hid (hp3.sub (by omega) 2 1 bt2 bt1)
 rw [A3.out] at C3
 rw [erv0]
 clear hp3 C2
 go_wp2_with fail
 refine C3.out.mono ?_
 rintro e w4 ⟨rfl, hp4⟩
 have C4 := hid (hp4.frm (by omega) 2 9 bt2)
 rw [A4.out] at C4
 rw [erv0]
 clear hp4 C3
 go_wp2_with fail
 refine C4.out.mono ?_
 rintro e w5 ⟨rfl, hp5⟩
 have hp5' : Pg es w w5 p (0 + 1 + 1 + 1 + 1) awF := hp5
 have C5 := hid (hp5'.com (by omega) 2 bt2)
 rw [A5.out, A6.out] at C5
 rw [erv0]
 clear hp5 hp5' C4
 go_wp2_with fail
 refine C5.out.mono ?_
 rintro e w6 ⟨va, vc, rfl, hr6, hp6⟩
 have C6 := hid (hp6.com (by omega) 1 bt1)
 rw [A7.out, A8.out] at C6
 rw [erv0]
 clear hp6 C5 hr6
 go_wp2_with fail
 refine C6.out.mono ?_
 rintro e w7 ⟨vb, vd, rfl, hr7, hp7⟩
 have hb7 := bel_new w7 (.cells #[.int .i64 1, .int .i64 2] 3)
 have C7 := hid (samez_any vb _ 2 vd 2 2 [1, 2] [1, 2] _ (hr7.on hb7) (rz_lit (l := [1, 2]) (heap_alloc_new w7 _) (by decide)))
 have HB := hid (Below.on hp7.bel hb7)
 rw [erv0]
 clear hp7 hr7 hb7 C6
 go_wp2_with fail
 refine C7.out.mono ?_
 rintro e w8 ⟨rfl, q8, rfl⟩
 rw [zeq_same]
 go_wp2
 go_ret
 exact ⟨rfl, below_drewN HB.out q8⟩
end
section
theorem len16 {α : Type} {l : List α} (h : l.length = 16) : ∃ x0 x1 x2 x3 x4 x5 x6 x7 x8 x9 x10 x11 x12 x13 x14 x15, l = [x0, x1, x2, x3, x4, x5, x6, x7, x8, x9, x10, x11, x12, x13, x14, x15] := by
 match l, h with
 | [x0, x1, x2, x3, x4, x5, x6, x7, x8, x9, x10, x11, x12, x13, x14, x15], _ => exact ⟨_, _, _, _, _, _, _, _, _, _, _, _, _, _, _, _, rfl⟩
theorem nodup_at {l : List Addr} (h : l.Nodup) {i j : Nat} {a : Addr} (hi : l[i]? = some a) (hj : l[j]? = some a) : i = j := by
 induction l generalizing i j with
 | nil => simp at hi
 | cons x l ih =>
  rw [List.nodup_cons] at h
  cases i with
  | zero =>
   cases j with
   | zero => rfl
   | succ j =>
    simp only [List.getElem?_cons_zero, List.getElem?_cons_succ, Option.some.injEq] at hi hj
    subst hi
    exact absurd (List.mem_of_getElem? hj) h.1
  | succ i =>
   cases j with
   | zero =>
    simp only [List.getElem?_cons_zero, List.getElem?_cons_succ, Option.some.injEq] at hi hj
    subst hj
    exact absurd (List.mem_of_getElem? hi) h.1
   | succ j =>
    simp only [List.getElem?_cons_succ] at hi hj
    rw [ih h.2 hi hj]
theorem ret_int' {k : IntKind} {a b : Int} (h : a = b) : Ending.returned (.int k a) = .returned (.int k b) := by rw [h]
theorem kind_any (w : World) (es : List Addr) (h : Errs w gerrs es) (k : Nat) (a : Addr) (ha : es[k]? = some a) :
  Calls Tryz.prog 27 #[.iface 176 (.pointer (some a))] w fun e w' => e = .returned (.int .i64 (k + 1 : Nat)) ∧ Below w.heap.size w w' := by
 obtain ⟨x0, x1, x2, x3, x4, x5, x6, x7, x8, x9, x10, x11, x12, x13, x14, x15, rfl⟩ := len16 h.len
 have c0 := (h.each 0 _ _ rfl rfl).1
 have c1 := (h.each 1 _ _ rfl rfl).1
 have c2 := (h.each 2 _ _ rfl rfl).1
 have c3 := (h.each 3 _ _ rfl rfl).1
 have c4 := (h.each 4 _ _ rfl rfl).1
 have c5 := (h.each 5 _ _ rfl rfl).1
 have c6 := (h.each 6 _ _ rfl rfl).1
 have c7 := (h.each 7 _ _ rfl rfl).1
 have c8 := (h.each 8 _ _ rfl rfl).1
 have c9 := (h.each 9 _ _ rfl rfl).1
 have c10 := (h.each 10 _ _ rfl rfl).1
 have c11 := (h.each 11 _ _ rfl rfl).1
 have c12 := (h.each 12 _ _ rfl rfl).1
 have c13 := (h.each 13 _ _ rfl rfl).1
 have c14 := (h.each 14 _ _ rfl rfl).1
 have c15 := (h.each 15 _ _ rfl rfl).1
 have hk : k < 16 := by
  rcases Nat.lt_or_ge k 16 with h' | h'
  ·exact h'
  ·rw [List.getElem?_eq_none (by simpa using h')] at ha; cases ha
 have hbel : Below w.heap.size w (w.alloc (.cells #[.iface 176 (.pointer (some x0)), .iface 176 (.pointer (some x1)), .iface 176 (.pointer (some x2)), .iface 176 (.pointer (some x3)), .iface 176 (.pointer (some x4)), .iface 176 (.pointer (some x5)), .iface 176 (.pointer (some x6)), .iface 176 (.pointer (some x7)), .iface 176 (.pointer (some x8)), .iface 176 (.pointer (some x9)), .iface 176 (.pointer (some x10)), .iface 176 (.pointer (some x11)), .iface 176 (.pointer (some x12)), .iface 176 (.pointer (some x13)), .iface 176 (.pointer (some x14)), .iface 176 (.pointer (some x15))] 101)) := (Below.refl _ _).alloc (Nat.le_refl _) _
 have HB : Hid (Below w.heap.size w (w.alloc (.cells #[.iface 176 (.pointer (some x0)), .iface 176 (.pointer (some x1)), .iface 176 (.pointer (some x2)), .iface 176 (.pointer (some x3)), .iface 176 (.pointer (some x4)), .iface 176 (.pointer (some x5)), .iface 176 (.pointer (some x6)), .iface 176 (.pointer (some x7)), .iface 176 (.pointer (some x8)), .iface 176 (.pointer (some x9)), .iface 176 (.pointer (some x10)), .iface 176 (.pointer (some x11)), .iface 176 (.pointer (some x12)), .iface 176 (.pointer (some x13)), .iface 176 (.pointer (some x14)), .iface 176 (.pointer (some x15))] 101))) := hbel
 have HL : Hid (∀ (j : Nat) (x : Addr), [x0, x1, x2, x3, x4, x5, x6, x7, x8, x9, x10, x11, x12, x13, x14, x15][j]? = some x → (w.alloc (.cells #[.iface 176 (.pointer (some x0)), .iface 176 (.pointer (some x1)), .iface 176 (.pointer (some x2)), .iface 176 (.pointer (some x3)), .iface 176 (.pointer (some x4)), .iface 176 (.pointer (some x5)), .iface 176 (.pointer (some x6)), .iface 176 (.pointer (some x7)), .iface 176 (.pointer (some x8)), .iface 176 (.pointer (some x9)), .iface 176 (.pointer (some x10)), .iface 176 (.pointer (some x11)), .iface 176 (.pointer (some x12)), .iface 176 (.pointer (some x13)), .iface 176 (.pointer (some x14)), .iface 176 (.pointer (some x15))] 101)).cell? ⟨w.heap.size, j, none⟩ = some (.iface 176 (.pointer (some x)))) := by
  intro j x hx
  have e : (#[.iface 176 (.pointer (some x0)), .iface 176 (.pointer (some x1)), .iface 176 (.pointer (some x2)), .iface 176 (.pointer (some x3)), .iface 176 (.pointer (some x4)), .iface 176 (.pointer (some x5)), .iface 176 (.pointer (some x6)), .iface 176 (.pointer (some x7)), .iface 176 (.pointer (some x8)), .iface 176 (.pointer (some x9)), .iface 176 (.pointer (some x10)), .iface 176 (.pointer (some x11)), .iface 176 (.pointer (some x12)), .iface 176 (.pointer (some x13)), .iface 176 (.pointer (some x14)), .iface 176 (.pointer (some x15))] : Array Value)[j]? = some (.iface 176 (.pointer (some x))) := by
   have : ([x0, x1, x2, x3, x4, x5, x6, x7, x8, x9, x10, x11, x12, x13, x14, x15].map fun y => Value.iface 176 (.pointer (some y)))[j]? = some (.iface 176 (.pointer (some x))) := by rw [List.getElem?_map, hx]; rfl
   simpa using this
  rw [World.cell?_alloc_at _ _ _ _ rfl]
  exact e
 clear hbel
 have HE : Hid (Errs w gerrs [x0, x1, x2, x3, x4, x5, x6, x7, x8, x9, x10, x11, x12, x13, x14, x15]) := h
 have HA : Hid ([x0, x1, x2, x3, x4, x5, x6, x7, x8, x9, x10, x11, x12, x13, x14, x15][k]? = some a) := ha
 clear h ha
 go_enter Tryz.func27, Tryz.ntmps27
 go_wp2
 clear c0 c1 c2 c3 c4 c5 c6 c7 c8 c9 c10 c11 c12 c13 c14 c15
 generalize hW : w.alloc (.cells #[.iface 176 (.pointer (some x0)), .iface 176 (.pointer (some x1)), .iface 176 (.pointer (some x2)), .iface 176 (.pointer (some x3)), .iface 176 (.pointer (some x4)), .iface 176 (.pointer (some x5)), .iface 176 (.pointer (some x6)), .iface 176 (.pointer (some x7)), .iface 176 (.pointer (some x8)), .iface 176 (.pointer (some x9)), .iface 176 (.pointer (some x10)), .iface 176 (.pointer (some x11)), .iface 176 (.pointer (some x12)), .iface 176 (.pointer (some x13)), .iface 176 (.pointer (some x14)), .iface 176 (.pointer (some x15))] 101) = W at *
 clear hW
 go_loop [4] (fun i => ∃ j : Nat, j ≤ k ∧ i = .int .i64 j) (fun i => 16 - (RowKit.intOf i).toNat)
 case atStart => exact ⟨0, Nat.zero_le _, rfl⟩
 case round =>
  obtain ⟨j, hj, rfl⟩ := hrel
  obtain ⟨x, hx⟩ : ∃ x, [x0, x1, x2, x3, x4, x5, x6, x7, x8, x9, x10, x11, x12, x13, x14, x15][j]? = some x := ⟨_, List.getElem?_eq_getElem (by simp; omega)⟩
  have hl := HL.out j x hx
  have HX : Hid ([x0, x1, x2, x3, x4, x5, x6, x7, x8, x9, x10, x11, x12, x13, x14, x15][j]? = some x) := hx
  clear hx
  have hj16 : (j : Int) < 16 := by omega
  by_cases he : j = k
  ·subst he
   obtain rfl : x = a := Option.some.inj (HX.out.symm.trans HA.out)
   go_wp2_with (go_at_call 78; refine (is_same x _).mono ?_; rintro e w' ⟨rfl, rfl⟩)
   go_ret
   exact ⟨ret_int' (by omega), HB.out⟩
  ·have hne : a ≠ x := by
    intro hax
    subst hax
    have e1 := HA.out
    have e2 := HX.out
    exact he (nodup_at HE.out.nodup e2 e1)
   obtain ⟨_, ca, ta, ha⟩ := (HE.out.each k _ a (List.getElem?_eq_getElem (by show _ < 16; omega)) HA.out).below HB.out
   obtain ⟨_, cb, tb, hb⟩ := (HE.out.each j _ x (List.getElem?_eq_getElem (by show _ < 16; omega)) HX.out).below HB.out
   have HC : Hid (∀ _ : Unit, Calls Tryz.prog 78 #[.iface 176 (.pointer (some a)), .iface 176 (.pointer (some x))] W fun e w' => e = .returned (.bool false) ∧ w' = W) := fun _ => is_other a x ca cb ta tb W hne ha hb
   clear ha hb hne
   go_wp2_with (go_at_call 78; refine (HC.out ()).mono ?_; rintro e w' ⟨rfl, rfl⟩)
   go_round
   case rel => exact ⟨j + 1, by omega, by go_num⟩
   case measure => simp [RowKit.intOf]; omega
theorem kind_nil (w : World) (es : List Addr) (h : Errs w gerrs es) :
  Calls Tryz.prog 27 #[.nilIface] w fun e w' => e = .returned (.int .i64 0) ∧ Below w.heap.size w w' := by
 obtain ⟨x0, x1, x2, x3, x4, x5, x6, x7, x8, x9, x10, x11, x12, x13, x14, x15, rfl⟩ := len16 h.len
 have c0 := (h.each 0 _ _ rfl rfl).1
 have c1 := (h.each 1 _ _ rfl rfl).1
 have c2 := (h.each 2 _ _ rfl rfl).1
 have c3 := (h.each 3 _ _ rfl rfl).1
 have c4 := (h.each 4 _ _ rfl rfl).1
 have c5 := (h.each 5 _ _ rfl rfl).1
 have c6 := (h.each 6 _ _ rfl rfl).1
 have c7 := (h.each 7 _ _ rfl rfl).1
 have c8 := (h.each 8 _ _ rfl rfl).1
 have c9 := (h.each 9 _ _ rfl rfl).1
 have c10 := (h.each 10 _ _ rfl rfl).1
 have c11 := (h.each 11 _ _ rfl rfl).1
 have c12 := (h.each 12 _ _ rfl rfl).1
 have c13 := (h.each 13 _ _ rfl rfl).1
 have c14 := (h.each 14 _ _ rfl rfl).1
 have c15 := (h.each 15 _ _ rfl rfl).1
 go_enter Tryz.func27, Tryz.ntmps27
 go_wp2
 go_ret
 exact ⟨rfl, (Below.refl _ _).alloc (Nat.le_refl _) _⟩
end
section
def plc (v : Int) (n : Nat) : Nat := (v % n).toNat
theorem plc_lt (v : Int) (n : Nat) (h : 0 < n) : plc v n < n := by
 have h1 := Int.emod_nonneg v (b := (n : Int)) (by omega)
 have h2 := Int.emod_lt_of_pos v (b := (n : Int)) (by omega)
 unfold plc
 omega
theorem ret_plc {k : IntKind} {a b : Int} (h : a = b) : Ending.returned (.int k a) = .returned (.int k b) := by rw [h]
theorem place_any (v : Int) (n : Nat) (_hv : -9223372036854775808 ≤ v ∧ v ≤ 9223372036854775807) (hn : 0 < n) (hn2 : n ≤ 1152921504606846976) (w : World) :
  Calls Tryz.prog 12 #[.int .i64 v, .int .i64 n] w fun e w' => e = .returned (.int .i64 (plc v n : Nat)) ∧ w' = w := by
 have h0 : ¬ ((n : Int) = 0) := by omega
 go_enter Tryz.func12, Tryz.ntmps12
 have hb := Int.emod_nonneg v (b := (n : Int)) (by omega)
 have hb2 := Int.emod_lt_of_pos v (b := (n : Int)) (by omega)
 have HP : Hid (((plc v n : Nat) : Int) = v % n) := by simp only [Hid]; unfold plc; omega
 have HT : Hid (v.tmod n = if 0 ≤ v ∨ (n : Int) ∣ v then v % n else v % n - n) := by
  simp only [Hid]
  rw [Int.tmod_eq_emod]
  split <;> simp
 have ht : -9223372036854775808 ≤ v.tmod n + n ∧ v.tmod n + n ≤ 9223372036854775807 := by rw [HT.out]; split <;> omega
 clear hb hb2
 go_wp2
 all_goals
  go_ret
  refine ⟨ret_plc ?_, rfl⟩
  have hb := Int.emod_nonneg v (b := (n : Int)) (by omega)
  have hb2 := Int.emod_lt_of_pos v (b := (n : Int)) (by omega)
  have h1 := HT.out
  rw [HP.out]
  split at h1 <;> omega
end
section
theorem ng_of {w : World} {es : List Addr} (h : Errs w gerrs es) : 16 ≤ w.heap.size := by
 have hl : es.length = 16 := h.len
 have each : ∀ i g, gerrs[i]? = some g → i < 16 → g < w.heap.size := fun i g hg hi => World.block_lt_of_cell? _ _ (h.each i g _ hg (List.getElem?_eq_getElem (by omega))).1
 have h0 := each 0 _ rfl (by decide)
 have h1 := each 1 _ rfl (by decide)
 have h2 := each 2 _ rfl (by decide)
 have h3 := each 3 _ rfl (by decide)
 have h4 := each 4 _ rfl (by decide)
 have h5 := each 5 _ rfl (by decide)
 have h6 := each 6 _ rfl (by decide)
 have h7 := each 7 _ rfl (by decide)
 have h8 := each 8 _ rfl (by decide)
 have h9 := each 9 _ rfl (by decide)
 have h10 := each 10 _ rfl (by decide)
 have h11 := each 11 _ rfl (by decide)
 have h12 := each 12 _ rfl (by decide)
 have h13 := each 13 _ rfl (by decide)
 have h14 := each 14 _ rfl (by decide)
 have h15 := each 15 _ rfl (by decide)
 omega
theorem kind_of {w : World} {es : List Addr} (hE : Errs w gerrs es) {k : Nat} (hk : k ≤ 16) : Calls Tryz.prog 27 #[erv es k] w fun e w' => e = .returned (.int .i64 (k : Nat)) ∧ Below w.heap.size w w' := by
 have hl : es.length = 16 := hE.len
 cases k with
 | zero => exact kind_nil w es hE
 | succ k =>
  have he : es[k]? = some (es.getD k ⟨0, 0, none⟩) := by rw [List.getD, List.getElem?_eq_getElem (by omega)]; rfl
  exact kind_any w es hE k _ he
end
section
open Go Go.ChangeShapes Go.WideShapes Go.ChangeAt Go.RowKit Go.Deep
variable {H : Type} {enc : TypeId × Value → H} {W : World} {d : DataW H} {p : List MemPlace}
theorem open_numsM {T E : TypeId} {fs : Array Field} {m : Nat} (hm : 0 < m) (hT : Tryz.prog.underlying T = some (.slice E)) (ht : Tryz.prog.underlying E = some (.struct fs)) (hm0 : fs.size = m) (hc : Tryz.prog.cellsOf E = m) (hf : numsB Tryz.prog fs = true) {k : Nat} {c : Value} {x : DataW H × List MemPlace} (h : DataW.trod enc Tryz.prog W 0 (fun _ => true) true k T [c] = some x) : ∃ s : Sl, c = .slice s.a s.n s.c ∧ RdM m W s.a s.n s.c s.l := by
 have key : ∀ a n c', c = .slice a n c' → ∃ s : Sl, c = .slice s.a s.n s.c ∧ RdM m W s.a s.n s.c s.l := fun a n c' e => by
  subst e
  obtain ⟨l, hl⟩ := open_structs (m := m) (P := Tryz.prog) (W := W) (enc := enc) (T := T) (E := E) hT ht hm0 hc hf (a := a) (n := n) (c := c') (d := x.1) (p := x.2) ⟨k, by rw [show (x.1, x.2) = x from rfl]; exact h⟩
  exact ⟨⟨a, n, c', l⟩, rfl, rdm_of_rdn hm hl⟩
 rcases open_slice hT h with ⟨hcs, _⟩ | ⟨a, len, cap, mm, k', D, Pl, hcs, _⟩
 ·simp only [List.cons.injEq, and_true] at hcs
  exact key _ _ _ hcs
 ·simp only [List.cons.injEq, and_true] at hcs
  exact key _ _ _ hcs
end
section
open Go Go.ChangeShapes Go.WideShapes Go.ChangeAt Go.RowKit Go.Deep
structure Oq where
 k : Int
 id : Int
 a : Int
 b : Int
 x : Int
 y : Int
 w : Int
 h : Int
 l : Sl
structure Oq.Ok (W : World) (o : Oq) : Prop where
 k : (-9223372036854775808 ≤ o.k ∧ o.k ≤ 9223372036854775807)
 id : (-9223372036854775808 ≤ o.id ∧ o.id ≤ 9223372036854775807)
 a : (-9223372036854775808 ≤ o.a ∧ o.a ≤ 9223372036854775807)
 b : (-9223372036854775808 ≤ o.b ∧ o.b ≤ 9223372036854775807)
 x : (-9223372036854775808 ≤ o.x ∧ o.x ≤ 9223372036854775807)
 y : (-9223372036854775808 ≤ o.y ∧ o.y ≤ 9223372036854775807)
 w_ : (-9223372036854775808 ≤ o.w ∧ o.w ≤ 9223372036854775807)
 h : (-9223372036854775808 ≤ o.h ∧ o.h ≤ 9223372036854775807)
 l : RdM 4 W o.l.a o.l.n o.l.c o.l.l
def oqc (o : Oq) : List Value := [.int .i64 o.k, .int .i64 o.id, .int .i64 o.a, .int .i64 o.b, .int .i64 o.x, .int .i64 o.y, .int .i64 o.w, .int .i64 o.h, .slice o.l.a o.l.n o.l.c]
structure RdQ (w : World) (a : Option Addr) (n c : Nat) : Prop where
 le : n ≤ c
 max : c ≤ maxLen
 each : ∀ j, j < n → ∃ b off o, a = some ⟨b, off, none⟩ ∧ b < w.heap.size ∧ (∀ i, i < 9 → w.cell? ⟨b, off + j * 9 + i, none⟩ = (oqc o)[i]?) ∧ o.Ok w
theorem i64_rangeQ {n : Int} (h : (Lit.int .i64 n).wf = true) : -9223372036854775808 ≤ n ∧ n ≤ 9223372036854775807 := by
 simpa [Lit.wf, IntKind.min, IntKind.max, IntKind.signed, IntKind.bits] using h
theorem cellsOq : Tryz.prog.cellsOf 33 = 9 := by kernel_rfl
theorem cellsRc : Tryz.prog.cellsOf 30 = 4 := by kernel_rfl
variable {H : Type} {enc : TypeId × Value → H} {W : World} {d : DataW H} {p : List MemPlace}
theorem open_oq {n : Nat} {cs : List Value} {x : DataW H × List MemPlace} (h : DataW.trod enc Tryz.prog W 0 (fun _ => true) true n 33 cs = some x) : ∃ o : Oq, cs = oqc o ∧ o.Ok W := by
 obtain ⟨xs, k, _, _, hl, hlen, hx⟩ := DataW.trod_struct Tryz.underlying33 h
 rw [cellsOq] at hl
 match cs, hl, xs, hlen with
 | [c0, c1, c2, c3, c4, c5, c6, c7, c8], _, [x0, x1, x2, x3, x4, x5], _ =>
  have h0 : DataW.trod enc Tryz.prog W 0 (fun _ => true) true k 3 (([c0, c1, c2, c3, c4, c5, c6, c7, c8].drop 0).take (Tryz.prog.cellsOf 3)) = some x0 := hx 0 _ rfl
  have h1 : DataW.trod enc Tryz.prog W 0 (fun _ => true) true k 3 (([c0, c1, c2, c3, c4, c5, c6, c7, c8].drop 1).take (Tryz.prog.cellsOf 3)) = some x1 := hx 1 _ rfl
  have h2 : DataW.trod enc Tryz.prog W 0 (fun _ => true) true k 3 (([c0, c1, c2, c3, c4, c5, c6, c7, c8].drop 2).take (Tryz.prog.cellsOf 3)) = some x2 := hx 2 _ rfl
  have h3 : DataW.trod enc Tryz.prog W 0 (fun _ => true) true k 3 (([c0, c1, c2, c3, c4, c5, c6, c7, c8].drop 3).take (Tryz.prog.cellsOf 3)) = some x3 := hx 3 _ rfl
  have h4 : DataW.trod enc Tryz.prog W 0 (fun _ => true) true k 30 (([c0, c1, c2, c3, c4, c5, c6, c7, c8].drop 4).take (Tryz.prog.cellsOf 30)) = some x4 := hx 4 _ rfl
  have h5 : DataW.trod enc Tryz.prog W 0 (fun _ => true) true k 31 (([c0, c1, c2, c3, c4, c5, c6, c7, c8].drop 8).take (Tryz.prog.cellsOf 31)) = some x5 := hx 5 _ rfl
  have k0 : Tryz.prog.cellsOf 3 = 1 := by kernel_rfl
  have k2 : Tryz.prog.cellsOf 31 = 1 := by kernel_rfl
  simp only [k0, k2, cellsRc, List.drop_zero, List.drop_succ_cons, List.take_succ_cons, List.take_zero] at h0 h1 h2 h3 h4 h5
  obtain ⟨ys, k', _, _, hl', hlen', hy⟩ := DataW.trod_struct Tryz.underlying30 h4
  match ys, hlen' with
  | [y0, y1, y2, y3], _ =>
   have g0 : DataW.trod enc Tryz.prog W 0 (fun _ => true) true k' 3 (([c4, c5, c6, c7].drop 0).take (Tryz.prog.cellsOf 3)) = some y0 := hy 0 _ rfl
   have g1 : DataW.trod enc Tryz.prog W 0 (fun _ => true) true k' 3 (([c4, c5, c6, c7].drop 1).take (Tryz.prog.cellsOf 3)) = some y1 := hy 1 _ rfl
   have g2 : DataW.trod enc Tryz.prog W 0 (fun _ => true) true k' 3 (([c4, c5, c6, c7].drop 2).take (Tryz.prog.cellsOf 3)) = some y2 := hy 2 _ rfl
   have g3 : DataW.trod enc Tryz.prog W 0 (fun _ => true) true k' 3 (([c4, c5, c6, c7].drop 3).take (Tryz.prog.cellsOf 3)) = some y3 := hy 3 _ rfl
   simp only [k0, List.drop_zero, List.drop_succ_cons, List.take_succ_cons, List.take_zero] at g0 g1 g2 g3
   obtain ⟨a0, e0, _, w0⟩ := DataW.trod_int Tryz.underlying3 h0
   obtain ⟨a1, e1, _, w1⟩ := DataW.trod_int Tryz.underlying3 h1
   obtain ⟨a2, e2, _, w2⟩ := DataW.trod_int Tryz.underlying3 h2
   obtain ⟨a3, e3, _, w3⟩ := DataW.trod_int Tryz.underlying3 h3
   obtain ⟨b0, f0, _, v0⟩ := DataW.trod_int Tryz.underlying3 g0
   obtain ⟨b1, f1, _, v1⟩ := DataW.trod_int Tryz.underlying3 g1
   obtain ⟨b2, f2, _, v2⟩ := DataW.trod_int Tryz.underlying3 g2
   obtain ⟨b3, f3, _, v3⟩ := DataW.trod_int Tryz.underlying3 g3
   simp only [List.cons.injEq, and_true] at e0 e1 e2 e3 f0 f1 f2 f3
   subst e0 e1 e2 e3 f0 f1 f2 f3
   obtain ⟨s, rfl, r⟩ := open_numsM (m := 4) (by decide) Tryz.underlying31 Tryz.underlying30 rfl (by kernel_rfl) (by kernel_rfl) h5
   exact ⟨⟨a0, a1, a2, a3, b0, b1, b2, b3, s⟩, rfl, ⟨i64_rangeQ w0, i64_rangeQ w1, i64_rangeQ w2, i64_rangeQ w3, i64_rangeQ v0, i64_rangeQ v1, i64_rangeQ v2, i64_rangeQ v3, r⟩⟩
theorem open_ops {a : Option Addr} {n c : Nat} (h : DataW.Trod enc Tryz.prog W 0 (fun _ => true) true 22 (.slice a n c) d p) : RdQ W a n c := by
 obtain ⟨fuel, hf⟩ := h
 rcases open_slice Tryz.underlying22 hf with ⟨hcs, _⟩ | ⟨a, len, cap, mm, k, D, Pl, hcs, hb, hl, hm, hmm, _, hx⟩
 ·simp [Value.cells] at hcs
  obtain ⟨rfl, rfl, rfl⟩ := hcs
  exact ⟨Nat.le_refl _, Nat.zero_le _, fun j hj => by omega⟩
 ·simp [Value.cells] at hcs
  obtain ⟨rfl, rfl, rfl⟩ := hcs
  simp only [if_true] at hmm
  subst hmm
  rw [cellsOq] at hx
  refine ⟨hl, hm, fun j hj => ?_⟩
  obtain ⟨cs', h1, h2⟩ := hx j (by omega)
  obtain ⟨o, rfl, hok⟩ := open_oq h2
  obtain ⟨_, _, hcc⟩ := World.cells?_some h1
  obtain ⟨b, off, spot⟩ := a
  have hspot : spot = none := by
   obtain ⟨cs0, h10, h20⟩ := hx 0 (by omega)
   obtain ⟨o0, rfl, _⟩ := open_oq h20
   obtain ⟨_, _, hc0⟩ := World.cells?_some h10
   have z0 := hc0 0 (by omega)
   simp only [oqc, List.getElem?_cons_zero] at z0
   simpa [Addr.add] using World.cell?_spot z0
  subst hspot
  have q0 : W.cell? ⟨b, off + j * 9 + 0, none⟩ = (oqc o)[0]? := by simpa only [add_plain] using hcc 0 (by omega)
  exact ⟨b, off, o, rfl, World.block_lt_of_cell? W _ q0, fun i hi => by simpa only [add_plain] using hcc i hi, hok⟩
end
section
theorem addE_le (F : Fo) (id : Int) : addE F id ≤ 16 := by
 unfold addE
 split
 ·omega
 ·split
  ·omega
  ·split <;> omega
theorem unsE_le (F : Fo) (id : Int) : unsE F id ≤ 16 := by
 unfold unsE
 split
 ·omega
 ·split <;> omega
theorem drpE_le (F : Fo) (id : Int) : drpE F id ≤ 16 := by
 unfold drpE
 split <;> omega
theorem hasE_le (F : Fo) (id : Int) : hasE F id ≤ 16 := by
 unfold hasE
 split <;> omega
theorem subEB_le (F : Fo) (id y : Int) : subEB F id y ≤ 16 := by
 unfold subEB
 split
 ·split
  ·omega
  ·split <;> omega
 ·omega
theorem putE_le (F : Fo) (id y : Int) (b : Nat) : putE F id y b ≤ 16 := by
 have := unsE_le F id
 unfold putE
 split
 ·split <;> omega
 ·omega
structure Bq (es : List Addr) (w0 : World) (p q mm : Nat) (F G : Fo) (g : Nat) (cs : Array Value) (w : World) : Prop where
 ex : Ex (sbs (sbs (Pq es w0 p mm F) (Dq w0 q mm G)) (blk g 33 cs)) w
 lo : w0.heap.size ≤ g
 er : Errs w0 gerrs es
structure B2q (es : List Addr) (w0 : World) (p q mm : Nat) (F : Fo) (w : World) : Prop where
 ex : Ex (sbs (Pq es w0 p mm F) (Dq w0 q mm F)) w
 er : Errs w0 gerrs es
variable {es : List Addr} {w0 w w' : World} {p q mm : Nat} {F G F' G' : Fo} {g : Nat} {cs : Array Value}
theorem bq_ft (h : w0.heap.size ≤ g) : Ft w0.heap.size (sbs (sbs (Pq es w0 p mm F) (Dq w0 q mm G)) (blk g 33 cs)) := sbs_ft (sbs_ft (pq_ft _ _ _ _ _) (dq_ft _ _ _ _)) (blk_ft h)
theorem Bq.on (h : Bq es w0 p q mm F G g cs w) (hb : Below w.heap.size w w') : Bq es w0 p q mm F G g cs w' := ⟨h.ex.on (bq_ft h.lo) hb, h.lo, h.er⟩
theorem Bq.drew (h : Bq es w0 p q mm F G g cs w) : Bq es w0 p q mm F G g cs w.drew := h.on (Below.refl _ _).drew
theorem Bq.parts (h : Bq es w0 p q mm F G g cs w) : (∃ X, Pq es w0 p mm F w X) ∧ (∃ Y, Dq w0 q mm G w Y) ∧ w.heap[g]? = some (.cells cs 33 (0, 0)) := by
 obtain ⟨Z, _, _, ⟨X, Y, h1, h2, _⟩, ⟨h3, _⟩, _⟩ := h.ex
 exact ⟨⟨X, h1⟩, ⟨Y, h2⟩, h3⟩
theorem Bq.bel (h : Bq es w0 p q mm F G g cs w) : RowKit.Below w0.heap.size w0 w := by
 obtain ⟨⟨X, h1⟩, _⟩ := h.parts
 exact h1.1
theorem Bq.cell (h : Bq es w0 p q mm F G g cs w) (j : Nat) : w.cell? ⟨g, j, none⟩ = cs[j]? := Lib.cell_of_heap h.parts.2.2 j
theorem Bq.lt (h : Bq es w0 p q mm F G g cs w) : g < w.heap.size := (Array.getElem?_eq_some_iff.1 h.parts.2.2).1
theorem Bq.left {f : Nat} {args : Array Value} {r : Value} (h : Bq es w0 p q mm F G g cs w) (hc : Ct Tryz.prog f args (Pq es w0 p mm F) (Pq es w0 p (mm + 1) F') r) : Calls Tryz.prog f args w fun e w' => e = .returned r ∧ Bq es w0 p q (mm + 1) F' G g cs w' := by
 obtain ⟨Z, hZ⟩ := h.ex
 refine (((hc.left (pq_ft _ _ _ _ _) (dq_ft w0 q mm G)).left (sbs_ft (pq_ft _ _ _ _ _) (dq_ft _ _ _ _)) (blk_ft h.lo)) w Z hZ).mono fun _ _ ⟨h1, Z', h2, _⟩ => ⟨h1, ?_⟩
 obtain ⟨U, V, ⟨X, Y, h3, h4, h5⟩, h6⟩ := h2
 exact ⟨⟨Z', U, V, ⟨X, Y, h3, dq_mono h4 (by omega), h5⟩, h6⟩, h.lo, h.er⟩
theorem Bq.leftq {f : Nat} {args : Array Value} {Q : Ending → World → Prop} (h : Bq es w0 p q mm F G g cs w) (hc : Cq Tryz.prog f args (Pq es w0 p mm F) (Pq es w0 p (mm + 1) F') Q) : Calls Tryz.prog f args w fun e w' => Q e w' ∧ Bq es w0 p q (mm + 1) F' G g cs w' := by
 obtain ⟨Z, hZ⟩ := h.ex
 refine (((hc.left (pq_ft _ _ _ _ _) (dq_ft w0 q mm G)).left (sbs_ft (pq_ft _ _ _ _ _) (dq_ft _ _ _ _)) (blk_ft h.lo)) w Z hZ).mono fun _ _ ⟨h1, Z', h2, _⟩ => ⟨h1, ?_⟩
 obtain ⟨U, V, ⟨X, Y, h3, h4, h5⟩, h6⟩ := h2
 exact ⟨⟨Z', U, V, ⟨X, Y, h3, dq_mono h4 (by omega), h5⟩, h6⟩, h.lo, h.er⟩
theorem Bq.rightq {f : Nat} {args : Array Value} {Q : Ending → World → Prop} (h : Bq es w0 p q mm F G g cs w) (hc : Cq Tryz.prog f args (Dq w0 q mm G) (Dq w0 q (mm + 1) G') Q) : Calls Tryz.prog f args w fun e w' => Q e w' ∧ Bq es w0 p q (mm + 1) F G' g cs w' := by
 obtain ⟨Z, hZ⟩ := h.ex
 refine (((hc.right (pq_ft es w0 p mm F) (dq_ft _ _ _ _)).left (sbs_ft (pq_ft _ _ _ _ _) (dq_ft _ _ _ _)) (blk_ft h.lo)) w Z hZ).mono fun _ _ ⟨h1, Z', h2, _⟩ => ⟨h1, ?_⟩
 obtain ⟨U, V, ⟨X, Y, h3, h4, h5⟩, h6⟩ := h2
 exact ⟨⟨Z', U, V, ⟨X, Y, pq_mono h3 (by omega), h4, h5⟩, h6⟩, h.lo, h.er⟩
theorem Bq.right {f : Nat} {args : Array Value} {r : Value} (h : Bq es w0 p q mm F G g cs w) (hc : Ct Tryz.prog f args (Dq w0 q mm G) (Dq w0 q (mm + 1) G') r) : Calls Tryz.prog f args w fun e w' => e = .returned r ∧ Bq es w0 p q (mm + 1) F G' g cs w' := h.rightq hc.cq
theorem Bq.kind (h : Bq es w0 p q mm F G g cs w) (k : Nat) (hk : k ≤ 16) : Calls Tryz.prog 27 #[erv es k] w fun e w' => e = .returned (.int .i64 (k : Nat)) ∧ Bq es w0 p q mm F G g cs w' :=
 (kind_of (h.er.below h.bel) hk).mono fun _ _ ⟨h2, h3⟩ => ⟨h2, h.on h3⟩
theorem Bq.dat (h : Bq es w0 p q mm F G g cs w) : ∃ Y, Dq w0 q mm G w Y ∧ (∀ b ∈ Y, b ≠ g) ∧ ∀ G' W, Nx (Dq w0 q (mm + 1) G') Y w W → Bq es w0 p q (mm + 1) F G' g cs W := by
 obtain ⟨_, _, V, ⟨X, Y, h1, h2, h3, rfl⟩, h4, h5, rfl⟩ := h.ex
 refine ⟨Y, h2, fun b hb e => h5 b (List.mem_append_right _ hb) (by rw [h4.2, e]; simp), fun G' W hn => ?_⟩
 have n1 := Nx.right (pq_ft es w0 p mm F) (dq_ft w0 q mm G) h1 h2 h3 hn
 obtain ⟨Z', h6, _⟩ := Nx.left (sbs_ft (pq_ft es w0 p mm F) (dq_ft w0 q mm G)) (blk_ft h.lo) ⟨X, Y, h1, h2, h3, rfl⟩ h4 h5 n1
 obtain ⟨U, V', ⟨X', Y', h7, h8, h9⟩, h10⟩ := h6
 exact ⟨⟨Z', U, V', ⟨X', Y', pq_mono h7 (by omega), h8, h9⟩, h10⟩, h.lo, h.er⟩
theorem Bq.two (h : Bq es w0 p q mm F F g cs w) {n : Nat} (hn : mm ≤ n) : B2q es w0 p q n F w := by
 obtain ⟨Z, U, V, ⟨X, Y, h3, h4, h5⟩, h6⟩ := h.ex
 exact ⟨⟨U, X, Y, pq_mono h3 hn, dq_mono h4 hn, h5⟩, h.er⟩
theorem B2q.bel (h : B2q es w0 p q mm F w) : RowKit.Below w0.heap.size w0 w := by
 obtain ⟨Z, X, Y, h1, _⟩ := h.ex
 exact h1.1
theorem B2q.on (h : B2q es w0 p q mm F w) (hb : Below w.heap.size w w') : B2q es w0 p q mm F w' := ⟨h.ex.on (sbs_ft (pq_ft _ _ _ _ _) (dq_ft _ _ _ _)) hb, h.er⟩
theorem B2q.mono (h : B2q es w0 p q mm F w) {n : Nat} (hn : mm ≤ n) : B2q es w0 p q n F w := by
 obtain ⟨Z, X, Y, h3, h4, h5⟩ := h.ex
 exact ⟨⟨Z, X, Y, pq_mono h3 hn, dq_mono h4 hn, h5⟩, h.er⟩
theorem B2q.bo (h : B2q es w0 p q mm F w) (cs : Array Value) : Bq es w0 p q mm F F w.heap.size cs (w.alloc (.cells cs 33)) := by
 have hb := h.bel
 obtain ⟨Z, hZ⟩ := h.ex
 exact ⟨⟨_, sbs_new (sbs_ft (pq_ft _ _ _ _ _) (dq_ft _ _ _ _)) hZ ((Below.refl _ _).alloc (Nat.le_refl _) _) ⟨heap_alloc_new w _, rfl⟩ (fun b hb => by
  obtain rfl := List.mem_singleton.1 hb
  exact Nat.le_refl _)⟩, hb.size, h.er⟩
theorem Bq.inp (h : Bq es w0 p q mm F G g cs w) (id : Int) (hi : Bt id) (a : Bool) (l : Sl) {u : World} (hb : Below w.heap.size w u) (hl : RdM 4 u l.a l.n l.c l.l) (hn : l.n ≤ 20) (hx : ∀ y, l.a = some y → 0 < l.n → w.heap.size ≤ y.block) :
  Calls Tryz.prog 19 #[.pointer (some ⟨p, 0, none⟩), .int .i64 id, .bool a, .slice l.a l.n l.c] u fun e w' => e = .returned (erv es (hasE F id)) ∧ Bq es w0 p q (mm + 1) (upd F id (inpS a l.l)) G g cs w' := by
 obtain ⟨_, _, V, ⟨X, Y, h1, h2, h3, rfl⟩, h4, h5, rfl⟩ := h.ex
 have k1 := (pq_ft es w0 p mm F).on h1 hb
 have k2 := (dq_ft w0 q mm G).on h2 hb
 have k4 := (blk_ft (T := 33) (cs := cs) h.lo).on h4 hb
 refine (pq_inp k1 id hi a l hl hn (fun y hy h0 hm => ?_)).mono fun _ _ ⟨e1, hN⟩ => ⟨e1, ?_⟩
 ·have := hx y hy h0
  have := ((pq_ft es w0 p mm F).lt h1 _ hm).2
  omega
 ·have n1 := Nx.left (pq_ft es w0 p mm F) (dq_ft w0 q mm G) k1 k2 h3 hN
  obtain ⟨Z', h6, _⟩ := Nx.left (sbs_ft (pq_ft es w0 p mm F) (dq_ft w0 q mm G)) (blk_ft h.lo) ⟨X, Y, k1, k2, h3, rfl⟩ k4 h5 n1
  obtain ⟨U, V', ⟨X', Y', h7, h8, h9⟩, h10⟩ := h6
  exact ⟨⟨Z', U, V', ⟨X', Y', h7, dq_mono h8 (by omega), h9⟩, h10⟩, h.lo, h.er⟩
structure Oc17 (x : World) (g : Nat) (o : Oq) : Prop where
 c0 : x.cell? ⟨g, 0, none⟩ = some (.int .i64 o.k)
 c1 : x.cell? ⟨g, 1, none⟩ = some (.int .i64 o.id)
 c2 : x.cell? ⟨g, 2, none⟩ = some (.int .i64 o.a)
 c3 : x.cell? ⟨g, 3, none⟩ = some (.int .i64 o.b)
 c4 : x.cell? ⟨g, 4, none⟩ = some (.int .i64 o.x)
 c5 : x.cell? ⟨g, 5, none⟩ = some (.int .i64 o.y)
 c6 : x.cell? ⟨g, 6, none⟩ = some (.int .i64 o.w)
 c7 : x.cell? ⟨g, 7, none⟩ = some (.int .i64 o.h)
 c8 : x.cell? ⟨g, 8, none⟩ = some (.slice o.l.a o.l.n o.l.c)
 lt : g < x.heap.size
theorem Bq.oc {o : Oq} (h : Bq es w0 p q mm F G g #[.int .i64 o.k, .int .i64 o.id, .int .i64 o.a, .int .i64 o.b, .int .i64 o.x, .int .i64 o.y, .int .i64 o.w, .int .i64 o.h, .slice o.l.a o.l.n o.l.c] w) : Oc17 w g o := ⟨h.cell 0, h.cell 1, h.cell 2, h.cell 3, h.cell 4, h.cell 5, h.cell 6, h.cell 7, h.cell 8, h.lt⟩
def StR (es : List Addr) (w0 : World) (p q mm : Nat) (e : Ending) (w' : World) : Prop := e = .returned (.bool true) ∧ ∃ F', B2q es w0 p q (mm + 2) F' w'
theorem upd_no {f : Sf → Sf} {id : Int} (h : gt F id = none) : upd F id f = F := by rw [upd, h]
theorem hasE_no {id : Int} (h : gt F id = none) : hasE F id = 5 := by rw [hasE, h]
theorem hasE_yes {id : Int} {s : Sf} (h : gt F id = some s) : hasE F id = 0 := by rw [hasE, h]
end
end Go.Proofs.YtdgknofpkafppaaGreatDoor
