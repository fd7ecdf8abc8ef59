/- Lemmas that the proof leans on. -/
import Derived.Test.YtpbgbpcdohdecaaGreatDoorB01
namespace Go.Proofs.YtpbgbpcdohdecaaGreatDoor
open Go Go.RowKit
set_option maxRecDepth 100000
set_option maxHeartbeats 1000000
section
abbrev Mo := Option (Nat × List UInt8)
def dtm : Mo → DataW Unit
 | none => .nil
 | some q => .agg [.lit (.int .i64 q.1), .lit (.int .i64 q.2.length)]
def slR : Value → Option (DataW Unit × List MemPlace)
 | .slice none 0 0 => some (.nil, [])
 | .slice (some ⟨g, 0, none⟩) n c => if n = c then some (.agg [.lit (.int .i64 g), .lit (.int .i64 n)], []) else none
 | _ => none
def Mep (D : DataW Unit) (s : Int → Mo) : Prop := ∀ k : Int, Maps.has D (.int .i64 k) = (s k).isSome ∧ D.atKey (.int .i64 k) .nil = dtm (s k)
theorem mep_empty : Mep (.map []) (fun _ => none) := fun _ => ⟨rfl, rfl⟩
def Mdom (s : Int → Mo) : Prop := ∀ k, (s k).isSome = true → 1 ≤ k ∧ k ≤ 255
def idl_MemA : List Int := (List.range 255).map fun i => ((i + 1 : Nat) : Int)
def mkeys (s : Int → Mo) : List Int := idl_MemA.filter fun k => (s k).isSome
theorem mem_idl_MemA {x : Int} : x ∈ idl_MemA ↔ 1 ≤ x ∧ x ≤ 255 := by
 simp only [idl_MemA, List.mem_map, List.mem_range]
 constructor
 ·rintro ⟨i, hi, rfl⟩
  omega
 ·intro h
  exact ⟨(x - 1).toNat, by omega, by omega⟩
theorem idl_rising_MemA : idl_MemA.Pairwise (· < ·) := by
 rw [idl_MemA, List.pairwise_map]
 exact List.pairwise_lt_range.imp (fun h => by omega)
theorem idl_len_MemA : idl_MemA.length = 255 := by simp [idl_MemA]
variable {P : Program} {kt : TypeId} {w : World} {b n : Nat} {D : DataW Unit} {s : Int → Mo}
theorem mkeys_perm (h : w.ownsMap P kt slR b n D) (hk : P.underlying kt = some (.int .i64)) (hR : Mep D s) (hg : Mdom s) : (mkeys s).Perm (intKeys D) := by
 have hC : CollectedI D (fun _ => false) (mkeys s) := ⟨(idl_rising_MemA.filter _).imp (fun h => by omega), fun x => by
  rw [mkeys, List.mem_filter, mem_idl_MemA, (hR x).1]
  constructor
  ·intro h
   simp [h.2]
  ·intro h
   simp only [and_true] at h
   exact ⟨hg x h, h⟩⟩
 exact hC.perm h (Maps.int_keyed hk) hk (fun _ => rfl)
theorem mtight (h : w.ownsMap P kt slR b n D) (hk : P.underlying kt = some (.int .i64)) (hR : Mep D s) (hg : Mdom s) : w.ownsMap P kt slR b 255 D := by
 have e1 : Maps.size D = (mkeys s).length := by
  rw [(mkeys_perm h hk hR hg).length_eq]
  obtain ⟨es, rfl, _⟩ := h.entries (Maps.int_keyed hk)
  simp [intKeys, Maps.size]
 have e2 : (mkeys s).length ≤ 255 := by
  rw [← idl_len_MemA]
  exact List.length_filter_le _ _
 obtain ⟨es, clock, hb, F, hs, rfl⟩ := h
 refine ⟨es, clock, hb, F, ?_, rfl⟩
 rw [← e1] at e2
 simpa [Maps.size, length_sorted] using e2
end
section
structure Mm (base : Nat) (w : World) (p b : Nat) (s : Int → Mo) : Prop where
 lop : base ≤ p
 lob : base ≤ b
 ne : p ≠ b
 var : w.heap[p]? = some (.cells #[.map (some b)] 170 (0, 0))
 own : ∃ D, w.ownsMap Tryz.prog 3 slR b 255 D ∧ Mep D s
 dom : Mdom s
 row : ∀ k q, s k = some q → base ≤ q.1 ∧ q.1 ≠ p ∧ q.1 ≠ b ∧ w.heap[q.1]? = some (.cells (bc q.2).toArray 5 (0, 0)) ∧ q.2.length ≤ 65536
 apart : ∀ k k' q q', s k = some q → s k' = some q' → q.1 = q'.1 → k = k'
theorem mown_kp {X : List Nat} {w w' : World} {b n : Nat} {D : DataW Unit} (h : w.ownsMap Tryz.prog 3 slR b n D) (hk : Kp X w w') (hX : b ∉ X) : w'.ownsMap Tryz.prog 3 slR b n D := by
 obtain ⟨es, clock, hb, F, hs, hD⟩ := h
 exact ⟨es, clock, hk.var hb hX, F, hs, hD⟩
theorem Mm.kept {base : Nat} {w w' : World} {p b : Nat} {s : Int → Mo} {X : List Nat} (h : Mm base w p b s) (hk : Kp X w w') (hp : p ∉ X) (hb : b ∉ X) (hr : ∀ k q, s k = some q → q.1 ∉ X) : Mm base w' p b s := by
 obtain ⟨D, h1, h2⟩ := h.own
 exact ⟨h.lop, h.lob, h.ne, hk.var h.var hp, ⟨D, mown_kp h1 hk hb, h2⟩, h.dom, fun k q e => by
  obtain ⟨r1, r2, r3, r4, r5⟩ := h.row k q e
  exact ⟨r1, r2, r3, hk.var r4 (hr k q e), r5⟩, h.apart⟩
theorem Mm.lt {base : Nat} {w : World} {p b : Nat} {s : Int → Mo} (h : Mm base w p b s) : p < w.heap.size ∧ b < w.heap.size := by
 obtain ⟨D, h1, _⟩ := h.own
 exact ⟨(Array.getElem?_eq_some_iff.1 h.var).1, h1.lt⟩
theorem Mm.rlt {base : Nat} {w : World} {p b : Nat} {s : Int → Mo} (h : Mm base w p b s) {k : Int} {q : Nat × List UInt8} (e : s k = some q) : q.1 < w.heap.size := (Array.getElem?_eq_some_iff.1 (h.row k q e).2.2.2.1).1
section
variable {H : Type} {P : Program} (w : World) {ops : Array Oper} {rest : List Oper} {o : Oper} {a : Act} {Q : Exit → Act → World → Prop}
end
theorem mnew_any (w : World) : Calls Tryz.prog 40 #[] w fun e w' => e = .returned (.pointer (some ⟨w.heap.size + 1, 0, none⟩)) ∧ Below w.heap.size w w' ∧ ∀ base, base ≤ w.heap.size → Mm base w' (w.heap.size + 1) w.heap.size (fun _ => none) := by
 have H0 := hid (World.ownsMap_made w Tryz.prog 3 slR)
 have hmm := @run_makeMap Tryz.prog
 go_enter Tryz.func40, Tryz.ntmps40
 go_wp2
 go_ret
 have hb : Below w.heap.size w (w.alloc (.map #[] 0)) := (Below.refl w.heap.size w).alloc (Nat.le_refl _) _
 refine ⟨by simp, hb.alloc hb.size _, fun base hbase => ⟨by omega, hbase, by omega, ?_, ⟨_, (mtight H0.out Tryz.underlying3 mep_empty (fun k h => by cases h)).alloc _, mep_empty⟩, (fun k h => by cases h), (fun k q h => by cases h), (fun k k' q q' h => by cases h)⟩⟩
 have := heap_alloc_new (w.alloc (.map #[] 0)) (.cells #[.map (some w.heap.size)] 170 (0, 0))
 simpa using this
end
section
abbrev Kb_MemP := Int → Option (List UInt8)
def ctS (s : Int → Mo) : Kb_MemP := fun k => (s k).map (·.2)
end
section
theorem cut_emp1 {a : Rc} (h : emp a = true) (b : Rc) : cut a b = rz := by rw [cut, if_pos (Or.inl h)]
theorem cut_emp2 (a : Rc) {b : Rc} (h : emp b = true) : cut a b = rz := by rw [cut, if_pos (Or.inr h)]
theorem cut_full {a b : Rc} (h : emp a = false) (h' : emp b = false) : cut a b = oft (max a.x b.x) (max a.y b.y) (min (en a.x a.w) (en b.x b.w)) (min (en a.y a.h) (en b.y b.h)) := by
 rw [cut, if_neg (by rw [h, h']; decide)]
theorem oft_left {x0 y0 x1 y1 : Int} (h : x1 ≤ x0) : oft x0 y0 x1 y1 = rz := by rw [oft, if_pos (Or.inl h)]
theorem oft_top {x0 y0 x1 y1 : Int} (h : y1 ≤ y0) : oft x0 y0 x1 y1 = rz := by rw [oft, if_pos (Or.inr h)]
theorem oft_full {x0 y0 x1 y1 : Int} (h : ¬ x1 ≤ x0) (h' : ¬ y1 ≤ y0) : oft x0 y0 x1 y1 = ⟨x0, y0, x1 - x0, y1 - y0⟩ := by rw [oft, if_neg (by omega)]
theorem way_int {p q s t : Int} (hs : 1 ≤ s ∧ s ≤ 9223372036854775807) (h : max p q < min (en p s) (en q t)) :
  -9223372036854775808 ≤ min (en p s) (en q t) - max p q ∧ min (en p s) (en q t) - max p q ≤ 9223372036854775807 := by
 have : en p s ≤ p + s := by unfold en; split <;> omega
 omega
theorem cut_any_RectC (a b : Rc) (ha : a.Ok) (hb : b.Ok) (w : World) : Calls Tryz.prog 109 #[.agg #[.int .i64 a.x, .int .i64 a.y, .int .i64 a.w, .int .i64 a.h], .agg #[.int .i64 b.x, .int .i64 b.y, .int .i64 b.w, .int .i64 b.h]] w fun e w' => e = .returned (.agg #[.int .i64 (cut a b).x, .int .i64 (cut a b).y, .int .i64 (cut a b).w, .int .i64 (cut a b).h]) ∧ Below w.heap.size w w' := by
 have CE := hid (fun w => empty_any a w)
 have CF := hid (fun w => empty_any b w)
 cases he : emp a
 ·cases hf : emp b
  ·rw [he] at CE
   rw [hf] at CF
   rw [cut_full he hf]
   obtain ⟨z1, z2⟩ := sizes he
   obtain ⟨z3, z4⟩ := sizes hf
   have C1 := hid (fun w => end_any a.x a.w ha.x ⟨z1, ha.w.2⟩ w)
   have C2 := hid (fun w => end_any b.x b.w hb.x ⟨z3, hb.w.2⟩ w)
   have C3 := hid (fun w => end_any a.y a.h ha.y ⟨z2, ha.h.2⟩ w)
   have C4 := hid (fun w => end_any b.y b.h hb.y ⟨z4, hb.h.2⟩ w)
   have W1 := hid (way_int (p := a.x) (q := b.x) ⟨z1, ha.w.2⟩ (t := b.w))
   have W2 := hid (way_int (p := a.y) (q := b.y) ⟨z2, ha.h.2⟩ (t := b.h))
   clear z1 z2 z3 z4 ha hb he hf
   go_enter Tryz.func109, Tryz.ntmps109
   go_wp2_with fail
   refine (CE.out _).mono ?_
   rintro e w1 ⟨rfl, hb1⟩
   obtain ⟨hA, hB, hR, hw⟩ := box3 a b rz hb1
   obtain ⟨c0, c1, c2, c3⟩ := hB.all
   clear hb1
   go_wp2_with fail
   refine (CF.out _).mono ?_
   rintro e w2 ⟨rfl, hb2⟩
   have HA := hid (hA.on hb2)
   have HB := hid (hB.on hb2)
   have HR := hid (hR.on hb2)
   have HW := hid (Below.on hw hb2)
   clear c0 c1 c2 c3 hA hB hR hw hb2 CE CF
   go_upto_region 3 with fail
   refine wp_region_held_drew (S := fun x => Below w2.heap.size w2 x) (by kernel_rfl) (Below.refl _ _).drew (fun hHeld => ?_)
   have hHeld : Below w2.heap.size w2 w2.drew := hHeld
   refine wpAnyH_take (i := 0) (v := ?_) rfl (by kernel_rfl) (by kernel_rfl) (by kernel_rfl) (fun _ _ _ h => h) (Or.inl ⟨by kernel_rfl, ?hy0⟩) (by assumption) ?_
   case hy0 => (intro w hSw; (try dsimp only at hSw); obtain ⟨t00, t01, t02, t03⟩ := (HA.out.on hSw).all; obtain ⟨t10, t11, t12, t13⟩ := (HB.out.on hSw).all; go_simp; try with_reducible rfl)
   try simp only [Act.put, List.getElem_toArray, List.getElem_cons_zero, List.setIfInBounds_toArray, List.set_cons_zero, List.set_cons_succ]
   refine wpAnyH_take (i := 1) (v := ?_) rfl (by kernel_rfl) (by kernel_rfl) (by kernel_rfl) (fun _ _ _ h => h) (Or.inl ⟨by kernel_rfl, ?hy1⟩) (by assumption) ?_
   case hy1 => (intro w hSw; (try dsimp only at hSw); obtain ⟨t00, t01, t02, t03⟩ := (HA.out.on hSw).all; obtain ⟨t10, t11, t12, t13⟩ := (HB.out.on hSw).all; go_simp; try with_reducible rfl)
   try simp only [Act.put, List.getElem_toArray, List.getElem_cons_zero, List.getElem_cons_succ, List.setIfInBounds_toArray, List.set_cons_zero, List.set_cons_succ]
   refine wpAnyH_take (i := 2) (v := ?_) rfl (by kernel_rfl) (by kernel_rfl) (by kernel_rfl) (fun _ _ _ h => h) (Or.inl ⟨by kernel_rfl, ?hy2⟩) (by assumption) ?_
   case hy2 => (intro w hSw; (try dsimp only at hSw); obtain ⟨t00, t01, t02, t03⟩ := (HA.out.on hSw).all; obtain ⟨t10, t11, t12, t13⟩ := (HB.out.on hSw).all; go_simp; try with_reducible rfl)
   try simp only [Act.put, List.getElem_toArray, List.getElem_cons_zero, List.getElem_cons_succ, List.setIfInBounds_toArray, List.set_cons_zero, List.set_cons_succ]
   refine wpAnyH_take (i := 3) (v := ?_) rfl (by kernel_rfl) (by kernel_rfl) (by kernel_rfl) (fun _ _ _ h => h) (Or.inl ⟨by kernel_rfl, ?hy3⟩) (by assumption) ?_
   case hy3 => (intro w hSw; (try dsimp only at hSw); obtain ⟨t00, t01, t02, t03⟩ := (HA.out.on hSw).all; obtain ⟨t10, t11, t12, t13⟩ := (HB.out.on hSw).all; go_simp; try with_reducible rfl)
   try simp only [Act.put, List.getElem_toArray, List.getElem_cons_zero, List.getElem_cons_succ, List.setIfInBounds_toArray, List.set_cons_zero, List.set_cons_succ]
   refine wpAnyH_take (i := 4) (v := ?_) rfl (by kernel_rfl) (by kernel_rfl) (by kernel_rfl) (fun _ _ _ h => h) (Or.inl ⟨by kernel_rfl, ?hy4⟩) (by assumption) ?_
   case hy4 => (intro w hSw; (try dsimp only at hSw); obtain ⟨t00, t01, t02, t03⟩ := (HA.out.on hSw).all; obtain ⟨t10, t11, t12, t13⟩ := (HB.out.on hSw).all; go_simp; try with_reducible rfl)
   try simp only [Act.put, List.getElem_toArray, List.getElem_cons_zero, List.getElem_cons_succ, List.setIfInBounds_toArray, List.set_cons_zero, List.set_cons_succ]
   refine wpAnyH_take (i := 5) (v := ?_) rfl (by kernel_rfl) (by kernel_rfl) (by kernel_rfl) (fun _ _ _ h => h) (Or.inl ⟨by kernel_rfl, ?hy5⟩) (by assumption) ?_
   case hy5 => (intro w hSw; (try dsimp only at hSw); obtain ⟨t00, t01, t02, t03⟩ := (HA.out.on hSw).all; obtain ⟨t10, t11, t12, t13⟩ := (HB.out.on hSw).all; go_simp; try with_reducible rfl)
   try simp only [Act.put, List.getElem_toArray, List.getElem_cons_zero, List.getElem_cons_succ, List.setIfInBounds_toArray, List.set_cons_zero, List.set_cons_succ]
   refine wpAnyH_take (i := 6) (v := ?_) rfl (by kernel_rfl) (by kernel_rfl) (by kernel_rfl) (fun _ _ _ h => h) (Or.inl ⟨by kernel_rfl, ?hy6⟩) (by assumption) ?_
   case hy6 => (intro w hSw; (try dsimp only at hSw); obtain ⟨t00, t01, t02, t03⟩ := (HA.out.on hSw).all; obtain ⟨t10, t11, t12, t13⟩ := (HB.out.on hSw).all; go_simp; try with_reducible rfl)
   try simp only [Act.put, List.getElem_toArray, List.getElem_cons_zero, List.getElem_cons_succ, List.setIfInBounds_toArray, List.set_cons_zero, List.set_cons_succ]
   refine wpAnyH_take (i := 7) (v := ?_) rfl (by kernel_rfl) (by kernel_rfl) (by kernel_rfl) (fun _ _ _ h => h) (Or.inl ⟨by kernel_rfl, ?hy7⟩) (by assumption) ?_
   case hy7 => (intro w hSw; (try dsimp only at hSw); obtain ⟨t00, t01, t02, t03⟩ := (HA.out.on hSw).all; obtain ⟨t10, t11, t12, t13⟩ := (HB.out.on hSw).all; go_simp; try with_reducible rfl)
   try simp only [Act.put, List.getElem_toArray, List.getElem_cons_zero, List.getElem_cons_succ, List.setIfInBounds_toArray, List.set_cons_zero, List.set_cons_succ]
   refine wpAnyH_take (i := 8) (v := ?_) rfl (by kernel_rfl) (by kernel_rfl) (by kernel_rfl) (fun _ _ _ h => h) (Or.inl ⟨by kernel_rfl, ?hy8⟩) (by assumption) ?_
   case hy8 => (intro w hSw; (try dsimp only at hSw); obtain ⟨t00, t01, t02, t03⟩ := (HA.out.on hSw).all; obtain ⟨t10, t11, t12, t13⟩ := (HB.out.on hSw).all; go_simp; try with_reducible rfl)
   try simp only [Act.put, List.getElem_toArray, List.getElem_cons_zero, List.getElem_cons_succ, List.setIfInBounds_toArray, List.set_cons_zero, List.set_cons_succ]
   refine wpAnyH_take (i := 10) (v := ?_) rfl (by kernel_rfl) (by kernel_rfl) (by kernel_rfl) (fun _ _ _ h => h) (Or.inl ⟨by kernel_rfl, ?hy10⟩) (by assumption) ?_
   case hy10 => (intro w hSw; (try dsimp only at hSw); obtain ⟨t00, t01, t02, t03⟩ := (HA.out.on hSw).all; obtain ⟨t10, t11, t12, t13⟩ := (HB.out.on hSw).all; go_simp; try with_reducible rfl)
   try simp only [Act.put, List.getElem_toArray, List.getElem_cons_zero, List.getElem_cons_succ, List.setIfInBounds_toArray, List.set_cons_zero, List.set_cons_succ]
   refine wpAnyH_take (i := 11) (v := ?_) rfl (by kernel_rfl) (by kernel_rfl) (by kernel_rfl) (fun _ _ _ h => h) (Or.inl ⟨by kernel_rfl, ?hy11⟩) (by assumption) ?_
   case hy11 => (intro w hSw; (try dsimp only at hSw); obtain ⟨t00, t01, t02, t03⟩ := (HA.out.on hSw).all; obtain ⟨t10, t11, t12, t13⟩ := (HB.out.on hSw).all; go_simp; try with_reducible rfl)
   try simp only [Act.put, List.getElem_toArray, List.getElem_cons_zero, List.getElem_cons_succ, List.setIfInBounds_toArray, List.set_cons_zero, List.set_cons_succ]
   refine wpAnyH_take (i := 12) (v := ?_) rfl (by kernel_rfl) (by kernel_rfl) (by kernel_rfl) (fun _ _ _ h => h) (Or.inl ⟨by kernel_rfl, ?hy12⟩) (by assumption) ?_
   case hy12 => (intro w hSw; (try dsimp only at hSw); obtain ⟨t00, t01, t02, t03⟩ := (HA.out.on hSw).all; obtain ⟨t10, t11, t12, t13⟩ := (HB.out.on hSw).all; go_simp; try with_reducible rfl)
   try simp only [Act.put, List.getElem_toArray, List.getElem_cons_zero, List.getElem_cons_succ, List.setIfInBounds_toArray, List.set_cons_zero, List.set_cons_succ]
   refine wpAnyH_take (i := 13) (v := ?_) rfl (by kernel_rfl) (by kernel_rfl) (by kernel_rfl) (fun _ _ _ h => h) (Or.inl ⟨by kernel_rfl, ?hy13⟩) (by assumption) ?_
   case hy13 => (intro w hSw; (try dsimp only at hSw); obtain ⟨t00, t01, t02, t03⟩ := (HA.out.on hSw).all; obtain ⟨t10, t11, t12, t13⟩ := (HB.out.on hSw).all; go_simp; try with_reducible rfl)
   try simp only [Act.put, List.getElem_toArray, List.getElem_cons_zero, List.getElem_cons_succ, List.setIfInBounds_toArray, List.set_cons_zero, List.set_cons_succ]
   refine wpAnyH_ready (rs := [9]) (by kernel_rfl) (by simp) ?_
   refine AllReadyH.cons rfl (fun K hK => ?_) AllReadyH.nil
   go_simp
   go_wp2_with fail
   refine (C1.out _).mono ?_
   rintro e u209 ⟨rfl, rfl⟩
   refine hK.out _ _ hHeld (fun _ => ?_)
   clear hK K
   refine wpAnyH_ready (rs := [14]) (by kernel_rfl) (by simp) ?_
   refine AllReadyH.cons rfl (fun K hK => ?_) AllReadyH.nil
   go_simp
   go_wp2_with fail
   refine (C2.out _).mono ?_
   rintro e u214 ⟨rfl, rfl⟩
   refine hK.out _ _ hHeld (fun _ => ?_)
   clear hK K
   refine wpAnyH_take (i := 15) (v := ?_) rfl (by kernel_rfl) (by kernel_rfl) (by kernel_rfl) (fun _ _ _ h => h) (Or.inl ⟨by kernel_rfl, ?hy15⟩) (by assumption) ?_
   case hy15 => (intro w hSw; (try dsimp only at hSw); obtain ⟨t00, t01, t02, t03⟩ := (HA.out.on hSw).all; obtain ⟨t10, t11, t12, t13⟩ := (HB.out.on hSw).all; go_simp; try with_reducible rfl)
   try simp only [Act.put, List.getElem_toArray, List.getElem_cons_zero, List.getElem_cons_succ, List.setIfInBounds_toArray, List.set_cons_zero, List.set_cons_succ]
   refine wpAnyH_take (i := 16) (v := ?_) rfl (by kernel_rfl) (by kernel_rfl) (by kernel_rfl) (fun _ _ _ h => h) (Or.inl ⟨by kernel_rfl, ?hy16⟩) (by assumption) ?_
   case hy16 => (intro w hSw; (try dsimp only at hSw); obtain ⟨t00, t01, t02, t03⟩ := (HA.out.on hSw).all; obtain ⟨t10, t11, t12, t13⟩ := (HB.out.on hSw).all; go_simp; try with_reducible rfl)
   try simp only [Act.put, List.getElem_toArray, List.getElem_cons_zero, List.getElem_cons_succ, List.setIfInBounds_toArray, List.set_cons_zero, List.set_cons_succ]
   refine wpAnyH_take (i := 17) (v := ?_) rfl (by kernel_rfl) (by kernel_rfl) (by kernel_rfl) (fun _ _ _ h => h) (Or.inl ⟨by kernel_rfl, ?hy17⟩) (by assumption) ?_
   case hy17 => (intro w hSw; (try dsimp only at hSw); obtain ⟨t00, t01, t02, t03⟩ := (HA.out.on hSw).all; obtain ⟨t10, t11, t12, t13⟩ := (HB.out.on hSw).all; go_simp; try with_reducible rfl)
   try simp only [Act.put, List.getElem_toArray, List.getElem_cons_zero, List.getElem_cons_succ, List.setIfInBounds_toArray, List.set_cons_zero, List.set_cons_succ]
   refine wpAnyH_done (by kernel_rfl) ?_ _
   clear hHeld
   have HA2 := hid HA.out.drew
   have HB2 := hid HB.out.drew
   go_upto_region 4 with fail
   refine wp_region_held_drew (S := fun x => Below w2.drew.heap.size w2.drew x) (by kernel_rfl) (Below.refl _ _).drew (fun hHeld => ?_)
   have hHeld : Below w2.drew.heap.size w2.drew w2.drew.drew := hHeld
   refine wpAnyH_take (i := 0) (v := ?_) rfl (by kernel_rfl) (by kernel_rfl) (by kernel_rfl) (fun _ _ _ h => h) (Or.inl ⟨by kernel_rfl, ?hy0⟩) (by assumption) ?_
   case hy0 => (intro w hSw; (try dsimp only at hSw); obtain ⟨t00, t01, t02, t03⟩ := (HA2.out.on hSw).all; obtain ⟨t10, t11, t12, t13⟩ := (HB2.out.on hSw).all; go_simp; try with_reducible rfl)
   try simp only [Act.put, List.getElem_toArray, List.getElem_cons_zero, List.setIfInBounds_toArray, List.set_cons_zero, List.set_cons_succ]
   refine wpAnyH_take (i := 1) (v := ?_) rfl (by kernel_rfl) (by kernel_rfl) (by kernel_rfl) (fun _ _ _ h => h) (Or.inl ⟨by kernel_rfl, ?hy1⟩) (by assumption) ?_
   case hy1 => (intro w hSw; (try dsimp only at hSw); obtain ⟨t00, t01, t02, t03⟩ := (HA2.out.on hSw).all; obtain ⟨t10, t11, t12, t13⟩ := (HB2.out.on hSw).all; go_simp; try with_reducible rfl)
   try simp only [Act.put, List.getElem_toArray, List.getElem_cons_zero, List.getElem_cons_succ, List.setIfInBounds_toArray, List.set_cons_zero, List.set_cons_succ]
   refine wpAnyH_take (i := 2) (v := ?_) rfl (by kernel_rfl) (by kernel_rfl) (by kernel_rfl) (fun _ _ _ h => h) (Or.inl ⟨by kernel_rfl, ?hy2⟩) (by assumption) ?_
   case hy2 => (intro w hSw; (try dsimp only at hSw); obtain ⟨t00, t01, t02, t03⟩ := (HA2.out.on hSw).all; obtain ⟨t10, t11, t12, t13⟩ := (HB2.out.on hSw).all; go_simp; try with_reducible rfl)
   try simp only [Act.put, List.getElem_toArray, List.getElem_cons_zero, List.getElem_cons_succ, List.setIfInBounds_toArray, List.set_cons_zero, List.set_cons_succ]
   refine wpAnyH_take (i := 3) (v := ?_) rfl (by kernel_rfl) (by kernel_rfl) (by kernel_rfl) (fun _ _ _ h => h) (Or.inl ⟨by kernel_rfl, ?hy3⟩) (by assumption) ?_
   case hy3 => (intro w hSw; (try dsimp only at hSw); obtain ⟨t00, t01, t02, t03⟩ := (HA2.out.on hSw).all; obtain ⟨t10, t11, t12, t13⟩ := (HB2.out.on hSw).all; go_simp; try with_reducible rfl)
   try simp only [Act.put, List.getElem_toArray, List.getElem_cons_zero, List.getElem_cons_succ, List.setIfInBounds_toArray, List.set_cons_zero, List.set_cons_succ]
   refine wpAnyH_take (i := 4) (v := ?_) rfl (by kernel_rfl) (by kernel_rfl) (by kernel_rfl) (fun _ _ _ h => h) (Or.inl ⟨by kernel_rfl, ?hy4⟩) (by assumption) ?_
   case hy4 => (intro w hSw; (try dsimp only at hSw); obtain ⟨t00, t01, t02, t03⟩ := (HA2.out.on hSw).all; obtain ⟨t10, t11, t12, t13⟩ := (HB2.out.on hSw).all; go_simp; try with_reducible rfl)
   try simp only [Act.put, List.getElem_toArray, List.getElem_cons_zero, List.getElem_cons_succ, List.setIfInBounds_toArray, List.set_cons_zero, List.set_cons_succ]
   refine wpAnyH_take (i := 5) (v := ?_) rfl (by kernel_rfl) (by kernel_rfl) (by kernel_rfl) (fun _ _ _ h => h) (Or.inl ⟨by kernel_rfl, ?hy5⟩) (by assumption) ?_
   case hy5 => (intro w hSw; (try dsimp only at hSw); obtain ⟨t00, t01, t02, t03⟩ := (HA2.out.on hSw).all; obtain ⟨t10, t11, t12, t13⟩ := (HB2.out.on hSw).all; go_simp; try with_reducible rfl)
   try simp only [Act.put, List.getElem_toArray, List.getElem_cons_zero, List.getElem_cons_succ, List.setIfInBounds_toArray, List.set_cons_zero, List.set_cons_succ]
   refine wpAnyH_take (i := 6) (v := ?_) rfl (by kernel_rfl) (by kernel_rfl) (by kernel_rfl) (fun _ _ _ h => h) (Or.inl ⟨by kernel_rfl, ?hy6⟩) (by assumption) ?_
   case hy6 => (intro w hSw; (try dsimp only at hSw); obtain ⟨t00, t01, t02, t03⟩ := (HA2.out.on hSw).all; obtain ⟨t10, t11, t12, t13⟩ := (HB2.out.on hSw).all; go_simp; try with_reducible rfl)
   try simp only [Act.put, List.getElem_toArray, List.getElem_cons_zero, List.getElem_cons_succ, List.setIfInBounds_toArray, List.set_cons_zero, List.set_cons_succ]
   refine wpAnyH_take (i := 7) (v := ?_) rfl (by kernel_rfl) (by kernel_rfl) (by kernel_rfl) (fun _ _ _ h => h) (Or.inl ⟨by kernel_rfl, ?hy7⟩) (by assumption) ?_
   case hy7 => (intro w hSw; (try dsimp only at hSw); obtain ⟨t00, t01, t02, t03⟩ := (HA2.out.on hSw).all; obtain ⟨t10, t11, t12, t13⟩ := (HB2.out.on hSw).all; go_simp; try with_reducible rfl)
   try simp only [Act.put, List.getElem_toArray, List.getElem_cons_zero, List.getElem_cons_succ, List.setIfInBounds_toArray, List.set_cons_zero, List.set_cons_succ]
   refine wpAnyH_take (i := 8) (v := ?_) rfl (by kernel_rfl) (by kernel_rfl) (by kernel_rfl) (fun _ _ _ h => h) (Or.inl ⟨by kernel_rfl, ?hy8⟩) (by assumption) ?_
   case hy8 => (intro w hSw; (try dsimp only at hSw); obtain ⟨t00, t01, t02, t03⟩ := (HA2.out.on hSw).all; obtain ⟨t10, t11, t12, t13⟩ := (HB2.out.on hSw).all; go_simp; try with_reducible rfl)
   try simp only [Act.put, List.getElem_toArray, List.getElem_cons_zero, List.getElem_cons_succ, List.setIfInBounds_toArray, List.set_cons_zero, List.set_cons_succ]
   refine wpAnyH_take (i := 10) (v := ?_) rfl (by kernel_rfl) (by kernel_rfl) (by kernel_rfl) (fun _ _ _ h => h) (Or.inl ⟨by kernel_rfl, ?hy10⟩) (by assumption) ?_
   case hy10 => (intro w hSw; (try dsimp only at hSw); obtain ⟨t00, t01, t02, t03⟩ := (HA2.out.on hSw).all; obtain ⟨t10, t11, t12, t13⟩ := (HB2.out.on hSw).all; go_simp; try with_reducible rfl)
   try simp only [Act.put, List.getElem_toArray, List.getElem_cons_zero, List.getElem_cons_succ, List.setIfInBounds_toArray, List.set_cons_zero, List.set_cons_succ]
   refine wpAnyH_take (i := 11) (v := ?_) rfl (by kernel_rfl) (by kernel_rfl) (by kernel_rfl) (fun _ _ _ h => h) (Or.inl ⟨by kernel_rfl, ?hy11⟩) (by assumption) ?_
   case hy11 => (intro w hSw; (try dsimp only at hSw); obtain ⟨t00, t01, t02, t03⟩ := (HA2.out.on hSw).all; obtain ⟨t10, t11, t12, t13⟩ := (HB2.out.on hSw).all; go_simp; try with_reducible rfl)
   try simp only [Act.put, List.getElem_toArray, List.getElem_cons_zero, List.getElem_cons_succ, List.setIfInBounds_toArray, List.set_cons_zero, List.set_cons_succ]
   refine wpAnyH_take (i := 12) (v := ?_) rfl (by kernel_rfl) (by kernel_rfl) (by kernel_rfl) (fun _ _ _ h => h) (Or.inl ⟨by kernel_rfl, ?hy12⟩) (by assumption) ?_
   case hy12 => (intro w hSw; (try dsimp only at hSw); obtain ⟨t00, t01, t02, t03⟩ := (HA2.out.on hSw).all; obtain ⟨t10, t11, t12, t13⟩ := (HB2.out.on hSw).all; go_simp; try with_reducible rfl)
   try simp only [Act.put, List.getElem_toArray, List.getElem_cons_zero, List.getElem_cons_succ, List.setIfInBounds_toArray, List.set_cons_zero, List.set_cons_succ]
   refine wpAnyH_take (i := 13) (v := ?_) rfl (by kernel_rfl) (by kernel_rfl) (by kernel_rfl) (fun _ _ _ h => h) (Or.inl ⟨by kernel_rfl, ?hy13⟩) (by assumption) ?_
   case hy13 => (intro w hSw; (try dsimp only at hSw); obtain ⟨t00, t01, t02, t03⟩ := (HA2.out.on hSw).all; obtain ⟨t10, t11, t12, t13⟩ := (HB2.out.on hSw).all; go_simp; try with_reducible rfl)
   try simp only [Act.put, List.getElem_toArray, List.getElem_cons_zero, List.getElem_cons_succ, List.setIfInBounds_toArray, List.set_cons_zero, List.set_cons_succ]
   refine wpAnyH_ready (rs := [9]) (by kernel_rfl) (by simp) ?_
   refine AllReadyH.cons rfl (fun K hK => ?_) AllReadyH.nil
   go_simp
   go_wp2_with fail
   refine (C3.out _).mono ?_
   rintro e u209 ⟨rfl, rfl⟩
   refine hK.out _ _ hHeld (fun _ => ?_)
   clear hK K
   refine wpAnyH_ready (rs := [14]) (by kernel_rfl) (by simp) ?_
   refine AllReadyH.cons rfl (fun K hK => ?_) AllReadyH.nil
   go_simp
   go_wp2_with fail
   refine (C4.out _).mono ?_
   rintro e u214 ⟨rfl, rfl⟩
   refine hK.out _ _ hHeld (fun _ => ?_)
   clear hK K
   refine wpAnyH_take (i := 15) (v := ?_) rfl (by kernel_rfl) (by kernel_rfl) (by kernel_rfl) (fun _ _ _ h => h) (Or.inl ⟨by kernel_rfl, ?hy15⟩) (by assumption) ?_
   case hy15 => (intro w hSw; (try dsimp only at hSw); obtain ⟨t00, t01, t02, t03⟩ := (HA2.out.on hSw).all; obtain ⟨t10, t11, t12, t13⟩ := (HB2.out.on hSw).all; go_simp; try with_reducible rfl)
   try simp only [Act.put, List.getElem_toArray, List.getElem_cons_zero, List.getElem_cons_succ, List.setIfInBounds_toArray, List.set_cons_zero, List.set_cons_succ]
   refine wpAnyH_take (i := 16) (v := ?_) rfl (by kernel_rfl) (by kernel_rfl) (by kernel_rfl) (fun _ _ _ h => h) (Or.inl ⟨by kernel_rfl, ?hy16⟩) (by assumption) ?_
   case hy16 => (intro w hSw; (try dsimp only at hSw); obtain ⟨t00, t01, t02, t03⟩ := (HA2.out.on hSw).all; obtain ⟨t10, t11, t12, t13⟩ := (HB2.out.on hSw).all; go_simp; try with_reducible rfl)
   try simp only [Act.put, List.getElem_toArray, List.getElem_cons_zero, List.getElem_cons_succ, List.setIfInBounds_toArray, List.set_cons_zero, List.set_cons_succ]
   refine wpAnyH_take (i := 17) (v := ?_) rfl (by kernel_rfl) (by kernel_rfl) (by kernel_rfl) (fun _ _ _ h => h) (Or.inl ⟨by kernel_rfl, ?hy17⟩) (by assumption) ?_
   case hy17 => (intro w hSw; (try dsimp only at hSw); obtain ⟨t00, t01, t02, t03⟩ := (HA2.out.on hSw).all; obtain ⟨t10, t11, t12, t13⟩ := (HB2.out.on hSw).all; go_simp; try with_reducible rfl)
   try simp only [Act.put, List.getElem_toArray, List.getElem_cons_zero, List.getElem_cons_succ, List.setIfInBounds_toArray, List.set_cons_zero, List.set_cons_succ]
   refine wpAnyH_done (by kernel_rfl) ?_ _
   clear hHeld HA HB HA2 HB2 C1 C2 C3 C4
   obtain ⟨d0, d1, d2, d3⟩ := HR.out.all
   have fz := HR.out.fz
   by_cases h1 : min (en a.x a.w) (en b.x b.w) ≤ max a.x b.x
   ·have e1 : decide (min (en a.x a.w) (en b.x b.w) ≤ max a.x b.x) = true := decide_eq_true h1
    clear W1 W2
    go_wp2
    refine bodyPost_ret (results_cell_row rfl _ _ (w.heap.size + 1 + 1) _ _ _ _ rfl (HR.out.st rz).drew.drew.obj Tryz.underlying97 rfl infoR) rfl ?_
    exact ⟨by rw [oft_left h1], (below_st HW.out (by omega) rz).drew.drew⟩
   ·have e1 : decide (min (en a.x a.w) (en b.x b.w) ≤ max a.x b.x) = false := decide_eq_false h1
    by_cases h2 : min (en a.y a.h) (en b.y b.h) ≤ max a.y b.y
    ·have e2 : decide (min (en a.y a.h) (en b.y b.h) ≤ max a.y b.y) = true := decide_eq_true h2
     clear W1 W2
     go_wp2
     refine bodyPost_ret (results_cell_row rfl _ _ (w.heap.size + 1 + 1) _ _ _ _ rfl (HR.out.st rz).drew.drew.obj Tryz.underlying97 rfl infoR) rfl ?_
     exact ⟨by rw [oft_top h2], (below_st HW.out (by omega) rz).drew.drew⟩
    ·have e2 : decide (min (en a.y a.h) (en b.y b.h) ≤ max a.y b.y) = false := decide_eq_false h2
     have g1 := W1.out (Int.not_le.1 h1)
     have g2 := W2.out (Int.not_le.1 h2)
     clear W1 W2
     go_wp2
     refine bodyPost_ret (results_cell_row rfl _ _ (w.heap.size + 1 + 1) _ _ _ _ rfl (HR.out.st ⟨_, _, _, _⟩).drew.drew.obj Tryz.underlying97 rfl infoR) rfl ?_
     exact ⟨by rw [oft_full (Int.not_le.2 h1) (Int.not_le.2 h2)], (below_st HW.out (by omega) ⟨_, _, _, _⟩).drew.drew⟩
  ·rw [hf] at CF
   rw [he] at CE
   rw [cut_emp2 a hf]
   clear ha hb he hf
   go_enter Tryz.func109, Tryz.ntmps109
   go_wp2_with fail
   refine (CE.out _).mono ?_
   rintro e w1 ⟨rfl, hb1⟩
   obtain ⟨_, hB, hR, hw⟩ := box3 a b rz hb1
   obtain ⟨c0, c1, c2, c3⟩ := hB.all
   clear hb1
   go_wp2_with fail
   refine (CF.out _).mono ?_
   rintro e w2 ⟨rfl, hb2⟩
   have HR2 := hid (hR.on hb2)
   have HW2 := hid (Below.on hw hb2)
   clear c0 c1 c2 c3 hB hR hw hb2 CE CF
   obtain ⟨d0, d1, d2, d3⟩ := HR2.out.all
   have fz := HR2.out.fz
   go_wp2
   refine bodyPost_ret (results_cell_row rfl _ _ (w.heap.size + 1 + 1) _ _ _ _ rfl (HR2.out.st rz).obj Tryz.underlying97 rfl infoR) rfl ?_
   exact ⟨rfl, below_st HW2.out (by omega) rz⟩
 ·rw [he] at CE
  rw [cut_emp1 he]
  clear ha hb he CF
  go_enter Tryz.func109, Tryz.ntmps109
  go_wp2_with fail
  refine (CE.out _).mono ?_
  rintro e w1 ⟨rfl, hb1⟩
  obtain ⟨_, _, hR, hw⟩ := box3 a b rz hb1
  clear hb1
  have HR2 := hid hR
  have HW2 := hid hw
  clear hR hw CE
  obtain ⟨d0, d1, d2, d3⟩ := HR2.out.all
  have fz := HR2.out.fz
  go_wp2
  refine bodyPost_ret (results_cell_row rfl _ _ (w.heap.size + 1 + 1) _ _ _ _ rfl (HR2.out.st rz).obj Tryz.underlying97 rfl infoR) rfl ?_
  exact ⟨rfl, below_st HW2.out (by omega) rz⟩
def fld : Rc := ⟨-16777216, -16777216, 33554432, 33554432⟩
theorem fld_ok : fld.Ok := ⟨by decide, by decide, by decide, by decide⟩
def bnd (a : Rc) : Rc := cut a fld
theorem bound_any (a : Rc) (ha : a.Ok) (w : World) : Calls Tryz.prog 165 #[.agg #[.int .i64 a.x, .int .i64 a.y, .int .i64 a.w, .int .i64 a.h]] w fun e w' => e = .returned (.agg #[.int .i64 (bnd a).x, .int .i64 (bnd a).y, .int .i64 (bnd a).w, .int .i64 (bnd a).h]) ∧ Below w.heap.size w w' := by
 have CC := hid (fun w => cut_any_RectC a fld ha fld_ok w)
 rw [show fld = ⟨-16777216, -16777216, 33554432, 33554432⟩ from rfl] at CC
 clear ha
 unfold bnd
 go_enter Tryz.func165, Tryz.ntmps165
 go_wp2_with fail
 refine (CC.out _).mono ?_
 rintro e w1 ⟨rfl, hb1⟩
 obtain ⟨_, hR, hw⟩ := box2 a rz hb1
 have HR := hid hR
 have HW := hid hw
 obtain ⟨d0, d1, d2, d3⟩ := hR.all
 have fz := hR.fz
 clear hb1 hR hw CC
 go_wp2
 refine bodyPost_ret (results_cell_row rfl _ _ (w.heap.size + 1) _ _ _ _ rfl (HR.out.st (cut a fld)).obj Tryz.underlying97 rfl infoR) rfl ?_
 exact ⟨rfl, below_st HW.out (by omega) (cut a fld)⟩
end
end Go.Proofs.YtpbgbpcdohdecaaGreatDoor
