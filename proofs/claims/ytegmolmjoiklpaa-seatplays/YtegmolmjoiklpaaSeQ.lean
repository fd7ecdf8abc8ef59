/- The document's seat: change, Look, Move, Keys, Gone; notes held against one another. -/
import Derived.Test.YtegmolmjoiklpaaSeP
import Derived.Deep.CutBlock
import Derived.Deep.DeepCutAuto
namespace Go.Proofs.Ytegmolmjoiklpaa
open Go Go.RowKit Go.Shelf

/-- The document's seat. -/
structure De (w : World) (p : Nat) (x y P K : Int) : Prop where
  obj : w.heap[p]? = some (.cells #[.int .i64 x, .int .i64 y, .int .i64 P, .int .i64 K] 31 (0, 0))
  hx : -16777216 ≤ x ∧ x ≤ 16777216
  hy : -16777216 ≤ y ∧ y ≤ 16777216
theorem De.lt {w : World} {p : Nat} {x y P K : Int} (h : De w p x y P K) : p < w.heap.size := (Array.getElem?_eq_some_iff.1 h.obj).1
theorem De.cells {w : World} {p : Nat} {x y P K : Int} (h : De w p x y P K) : w.cell? ⟨p, 0, none⟩ = some (.int .i64 x) ∧ w.cell? ⟨p, 1, none⟩ = some (.int .i64 y) ∧ w.cell? ⟨p, 2, none⟩ = some (.int .i64 P) ∧ w.cell? ⟨p, 3, none⟩ = some (.int .i64 K) :=
  ⟨(Lib.cell_of_heap h.obj 0).trans rfl, (Lib.cell_of_heap h.obj 1).trans rfl, (Lib.cell_of_heap h.obj 2).trans rfl, (Lib.cell_of_heap h.obj 3).trans rfl⟩
theorem De.fz {w : World} {p : Nat} {x y P K : Int} (h : De w p x y P K) (k : Nat) : w.frozen? ⟨p, k, none⟩ = false := Lib.frozen_of_heap h.obj k
theorem De.on {w u : World} {p : Nat} {x y P K : Int} (h : De w p x y P K) (hb : Below w.heap.size w u) : De u p x y P K := ⟨(hb.block p h.lt).trans h.obj, h.hx, h.hy⟩
theorem De.kp {X : List Nat} {w u : World} {p : Nat} {x y P K : Int} (h : De w p x y P K) (hb : Kp X w u) (hX : p ∉ X) : De u p x y P K := ⟨hb.var h.obj hX, h.hx, h.hy⟩
theorem De.set2 {w : World} {p : Nat} {x y P K : Int} (h : De w p x y P K) (s : Int) : De (w.setCell ⟨p, 2, none⟩ (.int .i64 s)) p x y s K := ⟨heap_setCell_same _ p 2 _ _ _ h.obj, h.hx, h.hy⟩
theorem De.set3 {w : World} {p : Nat} {x y P K : Int} (h : De w p x y P K) (s : Int) : De (w.setCell ⟨p, 3, none⟩ (.int .i64 s)) p x y P s := ⟨heap_setCell_same _ p 3 _ _ _ h.obj, h.hx, h.hy⟩
theorem De.set0 {w : World} {p : Nat} {x y P K : Int} (h : De w p x y P K) {a : Int} (ha : -16777216 ≤ a ∧ a ≤ 16777216) : De (w.setCell ⟨p, 0, none⟩ (.int .i64 a)) p a y P K := ⟨heap_setCell_same _ p 0 _ _ _ h.obj, ha, h.hy⟩
theorem De.set1 {w : World} {p : Nat} {x y P K : Int} (h : De w p x y P K) {a : Int} (ha : -16777216 ≤ a ∧ a ≤ 16777216) : De (w.setCell ⟨p, 1, none⟩ (.int .i64 a)) p x a P K := ⟨heap_setCell_same _ p 1 _ _ _ h.obj, h.hx, ha⟩
/-- What a call that tells notes leaves. -/
structure DeR (w w' : World) (p : Nat) (v : Value) (l : List (List Int)) (x y P K : Int) : Prop where
  rd : ∃ a c, v = .slice a l.length c ∧ RdM 4 w' a l.length c l ∧ ∀ q, a = some q → w.heap.size ≤ q.block
  kp : Kp [p] w w'
  de : De w' p x y P K
theorem infoNoteD : (Try.prog.info? 75).map (fun i => (i.zero, i.size, i.bytes)) = some (some (.agg #[.int .i64 0, .int .i64 0, .int .i64 0, .int .i64 0]), 4, 32) := by kernel_rfl
theorem src_noteD (U : World) (z0 z1 z2 z3 : Int) : Src Try.prog 4 45 (.slice (some ⟨U.heap.size, 0, none⟩) 1 1) 1 (mcs [[z0, z1, z2, z3]]) (U.alloc (.cells #[.int .i64 z0, .int .i64 z1, .int .i64 z2, .int .i64 z3] 75)) :=
  (rdm_one U z0 z1 z2 z3 75).src Try.underlying45

set_option maxRecDepth 100000 in
set_option maxHeartbeats 1000000 in
theorem rchange_any (old s x y : Int) (w : World) :
    Calls Try.prog 34 #[.int .i64 old, .int .i64 s, .int .i64 x, .int .i64 y] w fun e w' => ∃ v, e = .returned v ∧ OwM 4 75 w w' v (chgN old s x y) := by
  obtain ⟨i0, hi, hz0, hz1, hz2⟩ := infoSP infoNoteD
  obtain ⟨zs0, hzs0⟩ : ∃ zs0 : List (List Int), zs0 = if old = 0 then [] else [[2, old, 0, 0]] := ⟨_, rfl⟩
  have hzl0 : zs0.length ≤ 1 := by rw [hzs0]; split <;> simp
  have HC : Hid (chgN old s x y = zs0 ++ if s = 0 then [] else [[1, s, x, y]]) := by rw [Hid, chgN, ← hzs0]
  have HZ0 := hid hzs0
  clear hzs0
  go_enter Try.func34, Try.ntmps34
  go_upto_if 11 with fail
  go_cut [9] from 10 to 25 (fun v wx => OwM 4 75 w wx v zs0)
  case first =>
    by_cases h0 : old = 0
    · have hz : zs0 = [] := by rw [HZ0.out, if_pos h0]
      have e1 : (old != 0) = false := by simpa using h0
      subst hz
      clear h0
      go_wp2
      go_meet
      exact OwM.nil 4 _ _
    · have hz : zs0 = [[2, old, 0, 0]] := by rw [HZ0.out, if_neg h0]
      have e1 : (old != 0) = true := by simpa using h0
      subst hz
      clear h0
      have HSR := hid (src_noteD w 2 old 0 0)
      have HOW := hid (World.ownsRow_nil (w.alloc (.cells #[.int .i64 2, .int .i64 old, .int .i64 0, .int .i64 0] 75)) w.heap.size 75 4)
      have hsz2 : w.heap.size ≤ (w.alloc (.cells #[.int .i64 2, .int .i64 old, .int .i64 0, .int .i64 0] 75)).heap.size := by rw [World.size_alloc]; omega
      go_wp2_with (at_builtin; refine wpList_append_own_src _ rfl (.tmp 12) (.tmp 15) 45 45 rfl w.heap.size 75 i0 (.agg #[.int .i64 0, .int .i64 0, .int .i64 0, .int .i64 0]) 4 32 Try.underlying45 hi hz0 hz1 hz2 rfl _ _ _ rfl HOW.out _ _ _ rfl HSR.out (by simp only [maxLen]; omega) (fitsM (by omega) (by decide)) hsz2 ?_; intro v3 w4 o3 g3; have HO3 := hid o3; have HG3 := hid g3; clear o3 g3)
      go_meet
      exact (OwM.nil 4 75 w).more (o := .cells #[.int .i64 2, .int .i64 old, .int .i64 0, .int .i64 0] 75) (by simp) HO3.out HG3.out
  case rest =>
    have HOA := hid hcut
    obtain ⟨va, vc, rfl⟩ := own_shape hcut.own
    clear hcut
    by_cases h0 : s = 0
    · have e1 : (s != 0) = false := by simpa using h0
      have HZ : Hid (chgN old s x y = zs0) := by rw [Hid, HC.out, if_pos h0, List.append_nil]
      clear h0
      go_wp2
      go_ret
      rw [HZ.out]
      exact ⟨_, rfl, HOA.out⟩
    · have e1 : (s != 0) = true := by simpa using h0
      have HZ : Hid (chgN old s x y = zs0 ++ [[1, s, x, y]]) := by rw [Hid, HC.out, if_neg h0]
      clear h0
      have HSR := hid (src_noteD wc 1 s x y)
      have HOW := hid (ownsRow_below HOA.out.own (bel_nw wc (.cells #[.int .i64 1, .int .i64 s, .int .i64 x, .int .i64 y] 75)))
      have hsz2 : w.heap.size ≤ (wc.alloc (.cells #[.int .i64 1, .int .i64 s, .int .i64 x, .int .i64 y] 75)).heap.size := by have := HOA.out.bel.size; rw [World.size_alloc]; omega
      go_wp2_with (at_builtin; refine wpList_append_own_src _ rfl (.tmp 19) (.tmp 24) 45 45 rfl w.heap.size 75 i0 (.agg #[.int .i64 0, .int .i64 0, .int .i64 0, .int .i64 0]) 4 32 Try.underlying45 hi hz0 hz1 hz2 rfl _ _ _ rfl HOW.out _ _ _ rfl HSR.out (by simp only [maxLen]; omega) (fitsM (by omega) (by decide)) hsz2 ?_; intro v3 w4 o3 g3; have HO3 := hid (HOA.out.more (o := .cells #[.int .i64 1, .int .i64 s, .int .i64 x, .int .i64 y] 75) (k := [[1, s, x, y]]) (by simp) o3 g3); obtain ⟨va', vc', rfl⟩ := own_shape o3; clear o3 g3)
      go_ret
      rw [HZ.out]
      exact ⟨_, rfl, HO3.out⟩

set_option maxRecDepth 100000 in
theorem rsgone_any {w : World} {p : Nat} {x y P K : Int} (h : De w p x y P K) (s : Int) :
    Calls Try.prog 20 #[.pointer (some ⟨p, 0, none⟩), .int .i64 s] w fun e w' => (∃ v, e = .returned v) ∧ De w' p x y (gon P s) (gon K s) ∧ Kp [p] w w' := by
  obtain ⟨c0, c1, c2, c3⟩ := h.cells
  have f2 := h.fz 2
  have f3 := h.fz 3
  have hlp := h.lt
  have HS := hid h
  clear h
  by_cases hP : P = s
  · have e1 : gon P s = 0 := if_pos hP
    have HA := hid (HS.out.set2 0)
    obtain ⟨d0, d1, d2, d3⟩ := HA.out.cells
    have g3 := HA.out.fz 3
    have HE1 := hid e1
    clear e1
    by_cases hKs : K = s
    · have HE2 : Hid (gon K s = 0) := if_pos hKs
      have HB := hid (HA.out.set3 0)
      go_enter Try.func20, Try.ntmps20
      go_wp2
      go_end0
      rw [HE1.out, HE2.out]
      exact ⟨⟨_, rfl⟩, HB.out, (kp_set _ _ _ _).trans (kp_set _ _ _ _) (fun k hk _ => hk)⟩
    · have HE2 : Hid (gon K s = K) := if_neg hKs
      go_enter Try.func20, Try.ntmps20
      go_wp2
      go_end0
      rw [HE1.out, HE2.out]
      exact ⟨⟨_, rfl⟩, HA.out, kp_set _ _ _ _⟩
  · have e1 : gon P s = P := if_neg hP
    have HE1 := hid e1
    clear e1
    by_cases hKs : K = s
    · have HE2 : Hid (gon K s = 0) := if_pos hKs
      have HB := hid (HS.out.set3 0)
      go_enter Try.func20, Try.ntmps20
      go_wp2
      go_end0
      rw [HE1.out, HE2.out]
      exact ⟨⟨_, rfl⟩, HB.out, kp_set _ _ _ _⟩
    · have HE2 : Hid (gon K s = K) := if_neg hKs
      go_enter Try.func20, Try.ntmps20
      go_wp2
      go_end0
      rw [HE1.out, HE2.out]
      exact ⟨⟨_, rfl⟩, HS.out, Kp.refl _ _⟩

theorem OwM.der {w u : World} {p i e : Nat} {x y P K : Int} {v : Value} {l : List (List Int)} {s : Int} (h : OwM 4 e w u v l) (hd : De (u.setCell ⟨p, i, none⟩ (.int .i64 s)) p x y P K) (hp : p < w.heap.size) : DeR w (u.setCell ⟨p, i, none⟩ (.int .i64 s)) p v l x y P K := by
  obtain ⟨a, c, e1, hr, hq⟩ := h.rd
  have hk := kp_set u p i (.int .i64 s)
  refine ⟨⟨a, c, e1, hr.kp hk (fun x hx _ hm => ?_), fun q hx => (hq q hx).1⟩, (kp_of_below h.bel [p]).trans hk (fun k hk _ => hk), hd⟩
  simp only [List.mem_cons, List.not_mem_nil, or_false] at hm
  have := (hq x hx).1
  omega
theorem DeR.nope {w : World} {p : Nat} {x y P K : Int} (h : De w p x y P K) : DeR w w p (.slice none 0 0) [] x y P K := ⟨⟨none, 0, rfl, RdM.nil 4 w, fun q hq => by cases hq⟩, Kp.refl _ _, h⟩
set_option maxRecDepth 100000 in
theorem rskeys_any {w : World} {p : Nat} {x y P K : Int} (h : De w p x y P K) (s : Int) :
    Calls Try.prog 18 #[.pointer (some ⟨p, 0, none⟩), .int .i64 s] w fun e w' => ∃ v, e = .returned v ∧ DeR w w' p v (lokN K s 0 0) x y P s := by
  obtain ⟨c0, c1, c2, c3⟩ := h.cells
  have HS := hid h
  have hlp := h.lt
  clear h
  by_cases hK : s = K
  · have e1 : (s == K) = true := by simpa using hK
    have HL : Hid (lokN K s 0 0 = []) := by rw [Hid, hK, lokN_same]
    have HD : Hid (DeR w w p (.slice none 0 0) [] x y P s) := by rw [Hid, hK]; exact DeR.nope HS.out
    clear hK
    go_enter Try.func18, Try.ntmps18
    go_wp2
    go_ret
    rw [HL.out]
    exact ⟨_, rfl, HD.out⟩
  · have e1 : (s == K) = false := by simpa using hK
    have HL : Hid (lokN K s 0 0 = chgN K s 0 0) := lokN_other (Ne.symm hK) 0 0
    have CC := hid (rchange_any K s 0 0 w)
    clear hK
    go_enter Try.func18, Try.ntmps18
    go_wp2_with fail
    refine CC.out.mono ?_
    rintro e w1 ⟨v, rfl, ho⟩
    have hd1 := HS.out.on ho.bel
    have HO := hid (ho.der (hd1.set3 s) hlp)
    obtain ⟨d0, d1, d2, d3⟩ := hd1.cells
    have f3 := hd1.fz 3
    have hl1 := hd1.lt
    obtain ⟨va, vc, rfl⟩ := own_shape ho.own
    clear ho CC hd1
    go_wp2
    go_ret
    rw [HL.out]
    exact ⟨_, rfl, HO.out⟩
end Go.Proofs.Ytegmolmjoiklpaa
