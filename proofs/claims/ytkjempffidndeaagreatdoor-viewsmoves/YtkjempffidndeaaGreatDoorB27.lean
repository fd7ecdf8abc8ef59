/- Lemmas that the proof leans on. -/
import Derived.Test.YtkjempffidndeaaGreatDoorB26
import Derived.Maps.OwnIn
import Derived.Sort.CutIn
namespace Go.Proofs.YtkjempffidndeaaGreatDoor
open Go Go.RowKit
set_option maxRecDepth 100000
set_option maxHeartbeats 4000000
section
open Go Go.RowKit Go.Shelf
attribute [local go_sem] Oper.semAt_some
theorem seen_any (a : Option Addr) (n c p : Nat) (w : World) :
  Calls Tryz.prog 22 #[.pointer (some ⟨p, 0, none⟩), .slice a n c] w fun e w' => e = .returned (.func (.func 65) #[] #[.pointer (some ⟨w.heap.size + 1, 0, none⟩), .pointer (some ⟨w.heap.size, 0, none⟩)]) ∧ w' = (w.alloc (.cells #[.pointer (some ⟨p, 0, none⟩)] 26)).alloc (.cells #[.slice a n c] 23) := by
 go_enter Tryz.func22, Tryz.ntmps22
 go_wp2
 go_ret
 exact ⟨rfl, rfl⟩
structure KU (w : World) (gi gf p : Nat) (id : Int) (W : World) : Prop where
 i : W.cell? ⟨gi, 0, none⟩ = some (.int .i64 id)
 f : W.cell? ⟨gf, 0, none⟩ = some (.pointer (some ⟨p, 0, none⟩))
 bel : Below w.heap.size w W
theorem par_some {F : Fo} {id : Int} {s : Sf} (h : gt F id = some s) : parF F id = s.par := by rw [parF, h]
theorem up_hands {es : List Addr} {w0 w : World} {p mm : Nat} {F : Fo} (hP : Pg es w0 w p mm F) (gi gf : Nat) (id : Int) (hid0 : Bt id) :
  HandsX Tryz.prog 73 #[] #[.pointer (some ⟨gi, 0, none⟩), .pointer (some ⟨gf, 0, none⟩)] encI (upL 40 F id) (KU w gi gf p id) := fun dd l J Jx W hK hX hJ _ hY h0 => by
 have hk0 := hK 0 [] W h0
 have c0 := hk0.i
 have HY := hid hY
 have HJ := hid hJ
 have HK := hid hK
 have HP := hid hP
 have HPB : Hid (∀ (x : Int) s, gt F x = some s → Bt s.par) := fun x s hs => by
  rcases Decidable.em (s.par = 0) with h | h
  ·rw [h]; exact bt0
  ·obtain ⟨q, hq⟩ := hP.ok.inv.acy.par x s hs h
   exact hP.ok.bof.keys _ (gt_keys hq)
 clear hK hX hJ hY hP hk0
 refine callsIn_of_wp Tryz.func73 rfl trivial ?_ rfl
 simp only [Tryz.ntmps73, List.size_toArray, List.length_cons, List.length_nil, Nat.reduceAdd, Nat.reduceSub, Array.replicate_succ, Array.replicate_zero, List.push_toArray, List.append_toArray, List.nil_append, List.cons_append]
 gi_wp2
 gi_loopw [4] (fun i wr => ∃ (s : Int) (pre : List Int), i = .int .i64 s ∧ Bt s ∧ upL 40 F id = pre ++ upL 40 F s ∧ ∃ X, J pre.length X wr) (fun i _ => dpt F (numOf i))
 case atStart => exact ⟨id, [], rfl, hid0, rfl, [], h0⟩
 case round =>
  obtain ⟨s, pre, rfl, hs, hu, X, hJ1⟩ := hrel
  have hk1 := HK.out _ _ _ hJ1
  have CH := hid ((HP.out.on hk1.bel).has s hs)
  have hf := hk1.f
  have HU := hid hu
  clear hk1 hu c0
  cases hg : gt F s with
  | none =>
   rw [hg, show (none : Option Sf).isSome = false from rfl] at CH
   have HE : Hid (J (upL 40 F id).length X wr) := by
    rw [Hid, HU.out, up_none hg, List.append_nil]
    exact hJ1
   clear hJ1 hg
   gi_wp2
   refine ⟨trivial, (fun q => nomatch q), (callsIn_wide.2 CH.out).mono ?_⟩
   rintro e W2 ⟨rfl, rfl⟩
   gi_wp2
   refine ⟨fun _ _ => trivial, ?_⟩
   gi_wp2
   go_end0
   exact ⟨⟨_, rfl⟩, .inl ⟨X, HE.out⟩⟩
  | some t =>
   rw [hg, show (some t).isSome = true from rfl] at CH
   have hup := HP.out.ok.inv.up_some hg
   have hx : (upL 40 F id)[pre.length]? = some s := by rw [HU.out, hup, List.getElem?_append_right (Nat.le_refl _), Nat.sub_self]; rfl
   obtain ⟨fn, tmps, assign, body, hy, hR⟩ := HY.out (dd - 1) _ X _ _ hJ1 hx
   simp only [encI] at hy
   have HU2 : Hid (upL 40 F id = (pre ++ [s]) ++ upL 40 F t.par) := by rw [Hid, HU.out, hup, List.append_assoc]; rfl
   have HT : Hid (Bt t.par) := HPB.out _ _ hg
   have HD : Hid (dpt F t.par < dpt F s) := dpt_lt HP.out.ok.inv.acy hg
   have HR := hid hR
   have HPS : Hid (parF F s = t.par) := par_some hg
   clear hx hup hR hJ1 hg
   gi_wp2
   refine ⟨trivial, (fun q => nomatch q), (callsIn_wide.2 CH.out).mono ?_⟩
   rintro e W2 ⟨rfl, rfl⟩
   gi_wp2
   refine ⟨(fun q => nomatch q), HR.out.mono ?_⟩
   rintro e W3 ⟨hrd, (⟨rfl, X', hX', hJ4⟩ | ⟨rfl, hJx4⟩)⟩
   ·have hk4 := HK.out _ _ _ hJ4
    have hf4 := hk4.f
    have CP := hid ((HP.out.on hk4.bel).par s hs)
    rw [HPS.out] at CP
    have HJ4 := hid hJ4
    clear hrd hX' hk4 hJ4
    gi_wp2
    refine ⟨trivial, (fun q => nomatch q), (callsIn_wide.2 CP.out).mono ?_⟩
    rintro e W5 ⟨rfl, hb5⟩
    have HJ5 := hid (HJ.out _ _ _ _ HJ4.out (itr_of_below hb5 _))
    clear hb5
    gi_wp2
    go_roundw
    case rel => exact ⟨t.par, pre ++ [s], rfl, HT.out, HU2.out, X', by rw [List.length_append]; exact HJ5.out⟩
    case measure => exact HD.out
   ·gi_wp2
    go_end0
    exact ⟨⟨_, rfl⟩, .inr hJx4⟩
theorem upward_any (p : Nat) (id : Int) (w : World) :
  Calls Tryz.prog 31 #[.pointer (some ⟨p, 0, none⟩), .int .i64 id] w fun e w' => e = .returned (.func (.func 73) #[] #[.pointer (some ⟨w.heap.size + 1, 0, none⟩), .pointer (some ⟨w.heap.size, 0, none⟩)]) ∧ w' = (w.alloc (.cells #[.pointer (some ⟨p, 0, none⟩)] 26)).alloc (.cells #[.int .i64 id] 3) := by
 go_enter Tryz.func31, Tryz.ntmps31
 go_wp2
 go_ret
 exact ⟨rfl, rfl⟩
end
section
open Go Go.RowKit Go.Shelf
attribute [local go_sem] Oper.semAt_some
theorem vcell1 {u : World} {p T : Nat} {v : Value} (h : u.heap[p]? = some (.cells #[v] T (0, 0))) : u.cell? ⟨p, 0, none⟩ = some v := (Lib.cell_of_heap h 0).trans rfl
theorem vset {u : World} {b j : Nat} (o : Nat) (v : Value) (hn : b ≠ j) : (u.setCell ⟨j, 0, none⟩ v).cell? ⟨b, o, none⟩ = u.cell? ⟨b, o, none⟩ := by
 have e : (u.setCell ⟨j, 0, none⟩ v).heap[b]? = u.heap[b]? := heap_setCell_other _ _ _ _ hn
 simp only [World.cell?, e]
theorem vnew (w : World) (o : Obj) {k : Nat} (hk : k = w.heap.size) : (w.alloc o).heap[k]? = some o := by rw [hk]; exact heap_alloc_new w _
theorem vold {w : World} {k : Nat} {o : Obj} (h : w.heap[k]? = some o) (o' : Obj) : (w.alloc o').heap[k]? = some o := (Below.heap_alloc _ _ _ (Array.getElem?_eq_some_iff.1 h).1).trans h
theorem vput {B : Nat} (w : World) (k : Nat) (o : Obj) (hk : B ≤ k) : Below B w (w.putObj k o) :=
 ⟨rfl, rfl, rfl, by simp, fun j hj => World.putObj_heap_other (by omega)⟩
theorem last_take {l : List Int} {k : Nat} {x : Int} (h : l[k]? = some x) : (l.take (k + 1)).getLastD 0 = x := by
 rw [List.take_add_one, h]
 simp
theorem vroot_any {es : List Addr} {w0 w : World} {p mm : Nat} {F : Fo} (hP : Pg es w0 w p mm F) (id : Int) (hb0 : Bt id) :
  Calls Tryz.prog 13 #[.pointer (some ⟨p, 0, none⟩), .int .i64 id] w fun e w' => e = .returned (.int .i64 (rtF F id)) ∧ Below w.heap.size w w' := by
 refine (callsIn_wide (n := 6)).1 ?_
 have HI := hid (up_hands hP (w.heap.size + 1 + 1) (w.heap.size + 1) id hb0)
 clear hP hb0
 refine callsIn_of_wp_marks Tryz.func13 rfl trivial ?_ rfl
 simp only [Tryz.ntmps13, List.size_toArray, List.length_cons, List.length_nil, Nat.reduceAdd, Nat.reduceSub, Array.replicate_succ, Array.replicate_zero, List.push_toArray, List.append_toArray, List.nil_append, List.cons_append]
 gi_wp2
 refine ⟨trivial, (callsIn_wide.2 (upward_any p id _)).mono ?_⟩
 rintro e W1 ⟨rfl, hW1⟩
 have hb1 : Below w.heap.size w W1 := by
  rw [hW1]
  exact (((Below.refl _ w).alloc (Nat.le_refl _) _).alloc (by simp) _).alloc (by simp; omega) _
 have hs1 : W1.heap.size = w.heap.size + 1 + 1 + 1 := by rw [hW1]; simp
 have h0 : W1.heap[w.heap.size]? = some (.cells #[.int .i64 0] 3 (0, 0)) := by rw [hW1]; exact vold (vold (vnew w _ rfl) _) _
 have h1 : W1.heap[w.heap.size + 1]? = some (.cells #[.pointer (some ⟨p, 0, none⟩)] 26 (0, 0)) := by rw [hW1]; exact vold (vnew _ _ (by simp)) _
 have h2 : W1.heap[w.heap.size + 1 + 1]? = some (.cells #[.int .i64 id] 3 (0, 0)) := by rw [hW1]; exact vnew _ _ (by simp)
 have hK1 : KU w (w.heap.size + 1 + 1) (w.heap.size + 1) p id W1 := ⟨vcell1 h2, vcell1 h1, hb1⟩
 simp only [World.size_alloc]
 clear hW1 h1 h2 hb1
 have HS1 := hid hs1
 clear hs1
 gi_wp2
 refine wp_range_capX (gf := 73) (bd := #[]) (cap := #[.pointer (some ⟨w.heap.size + 1 + 1, 0, none⟩), .pointer (some ⟨w.heap.size + 1, 0, none⟩)]) rfl (enters_of Tryz.func73 (by kernel_rfl) rfl) HI.out (fun _ => rfl)
  (fun k X U => X = [] ∧ U.heap[w.heap.size]? = some (.cells #[.int .i64 (((upL 40 F id).take k).getLastD 0)] 3 (0, 0)) ∧ KU w (w.heap.size + 1 + 1) (w.heap.size + 1) p id U)
  (fun _ _ => False)
  (fun k X U U' h hb => ⟨h.1, hb.obj h.2.1, hb.cell h.2.2.i, hb.cell h.2.2.f, h.2.2.bel.trans ((hb.below (by rw [HS1.out]; exact World.block_lt_of_cell? _ _ h.2.2.i)).mono (by rw [HS1.out]; omega))⟩)
  (fun co U U' h hb => h.elim)
  (fun k X U h => h.2.2)
  (fun k X U h q hq => by rw [h.1] at hq; cases hq)
  ⟨rfl, h0, hK1⟩ ?round ?done ?stop
 case round =>
  rintro m l k X x U ⟨rfl, hu, hku⟩ hx hlt _
  have HX := hid hx
  have HU := hid hu
  have HKU := hid hku
  clear hx hu hku
  simp only [encI]
  gi_wp2
  refine ⟨Rnd.refl _ _ _, fun U2 hkp hit => ?_⟩
  have hu2 := hit.obj HU.out
  have hc2 := vcell1 hu2
  have hf2 := Lib.frozen_of_heap hu2 0
  have HU2 := hid hu2
  have HK2 : Hid (KU w (w.heap.size + 1 + 1) (w.heap.size + 1) p id (U2.setCell ⟨w.heap.size, 0, none⟩ (.int .i64 x))) := ⟨by rw [vset _ _ (by omega)]; exact hit.cell HKU.out.i, by rw [vset _ _ (by omega)]; exact hit.cell HKU.out.f, (HKU.out.bel.trans ((hit.below (by rw [HS1.out]; exact World.block_lt_of_cell? _ _ HKU.out.i)).mono (by rw [HS1.out]; omega))).setCell (p := ⟨w.heap.size, 0, none⟩) (Nat.le_refl _) _⟩
  clear hkp hit hu2
  gi_wp2
  refine ⟨(Rnd.refl _ _ _).set (.inl (by rw [HS1.out]; omega)) _ _, [], (fun q hq => by cases hq), rfl, ?_, HK2.out⟩
  rw [last_take HX.out]
  exact heap_setCell_same _ _ 0 _ _ _ HU2.out
 case done =>
  rintro D X U hD ⟨rfl, hu, hku⟩ hDX hKd
  rw [List.take_length] at hu
  change U.heap[w.heap.size]? = some (.cells #[.int .i64 (rtF F id)] 3 (0, 0)) at hu
  have dv := vcell1 hu
  have hbp : RowKit.Below w.heap.size w (U.putObj D (.deferred none)) := hku.bel.trans (vput _ _ _ (by rw [HS1.out] at hD; omega))
  gi_wp2
  refine ⟨by simp, .inl ⟨_, _, rfl, run_takeDeferred hKd, ?_⟩⟩
  exact ⟨.int .i64 (rtF F id), (by simp [results, Tryz.f13, go_sem]), rfl, hbp⟩
 case stop => exact fun _ _ _ _ h => h.elim
end
section
open Go Go.RowKit Go.Shelf
attribute [local go_sem] Oper.semAt_some
theorem grown_heap {w w' : World} {row : Option Nat} (hg : w.grownBy w' row) {k : Nat} {o : Obj} (h : w.heap[k]? = some o) (hr : row ≠ some k) : w'.heap[k]? = some o := (hg.block k (Array.getElem?_eq_some_iff.1 h).1 (fun e => hr e.symm)).trans h
theorem rnd_grow {w w' : World} {row : Option Nat} (hg : w.grownBy w' row) (D : Nat) : Rnd D row.toList w w' := ⟨hg.size, fun k _ hk hX => hg.block k hk (fun e => hX (by rw [← e]; simp))⟩
theorem own_ne {w : World} {base e size n : Nat} {v : Value} {xs : List Value} (h : w.ownsRow base e size v n xs) {k T : Nat} {cs : Array Value} {f : Nat × Nat} (hk : w.heap[k]? = some (.cells cs T f)) (hT : T ≠ e) : v.ownBlock ≠ some k := fun e1 => by
 rcases h.2 with ⟨rfl, _⟩ | ⟨g, cap, cur, rfl, _, hg, _⟩
 ·cases e1
 ·cases e1
  rw [hk] at hg
  cases hg
  exact hT rfl
theorem own_shp {w : World} {base e size n : Nat} {v : Value} {xs : List Value} (h : w.ownsRow base e size v n xs) : ∃ a c, v = .slice a n c := by
 rcases h.2 with ⟨rfl, rfl⟩ | ⟨g, cap, cur, rfl, _⟩
 ·exact ⟨_, _, rfl⟩
 ·exact ⟨_, _, rfl⟩
theorem fldS1 (v0 v2 v3 v4 v5 v6 v7 v8 v9 : Value) (z : Int) (w : World) : (Instr.field 72 (.agg #[v0, .int .i64 z, v2, v3, v4, v5, v6, v7, v8, v9]) 1).run Tryz.prog w = .ok (.int .i64 z) w := by kernel_rfl
theorem cellsL (U : World) (xs : List Value) (T : Nat) : ∀ (j : Nat) (u : Value), xs[j]? = some u → (U.alloc (.cells xs.toArray T)).cell? ((⟨U.heap.size, 0, none⟩ : Addr).add j) = some u := fun j u hu => by
 rw [Go.WideShapes.add_plain, Nat.zero_add, Lib.cell_of_heap (vnew U (.cells xs.toArray T) rfl)]
 simpa using hu
structure KO (w : World) (p : Nat) (a : Option Addr) (n c : Nat) (a' : Option Addr) (n' c' : Nat) (U : World) : Prop where
 b0 : U.heap[w.heap.size]? = some (.cells #[.pointer (some ⟨p, 0, none⟩)] 26 (0, 0))
 b1 : U.heap[w.heap.size + 1]? = some (.cells #[.slice a' n' c'] 32 (0, 0))
 b3 : U.heap[w.heap.size + 1 + 1 + 1]? = some (.cells #[.pointer (some ⟨p, 0, none⟩)] 26 (0, 0))
 b4 : U.heap[w.heap.size + 1 + 1 + 1 + 1]? = some (.cells #[.slice a n c] 23 (0, 0))
 bel : Below w.heap.size w U
theorem KO.v {w : World} {p : Nat} {a : Option Addr} {n c : Nat} {a' : Option Addr} {n' c' : Nat} {U : World} (h : KO w p a n c a' n' c' U) : KV w (w.heap.size + 1 + 1 + 1 + 1) (w.heap.size + 1 + 1 + 1) p a n c U := ⟨vcell1 h.b4, vcell1 h.b3, h.bel⟩
theorem KO.f {w : World} {p : Nat} {a : Option Addr} {n c : Nat} {a' : Option Addr} {n' c' : Nat} {U : World} (h : KO w p a n c a' n' c' U) : U.cell? ⟨w.heap.size, 0, none⟩ = some (.pointer (some ⟨p, 0, none⟩)) := vcell1 h.b0
theorem KO.z {w : World} {p : Nat} {a : Option Addr} {n c : Nat} {a' : Option Addr} {n' c' : Nat} {U : World} (h : KO w p a n c a' n' c' U) : U.cell? ⟨w.heap.size + 1, 0, none⟩ = some (.slice a' n' c') := vcell1 h.b1
theorem KO.lt {w : World} {p : Nat} {a : Option Addr} {n c : Nat} {a' : Option Addr} {n' c' : Nat} {U : World} (h : KO w p a n c a' n' c' U) : w.heap.size + 1 + 1 + 1 + 1 < U.heap.size := (Array.getElem?_eq_some_iff.1 h.b4).1
theorem KO.itr {w : World} {p : Nat} {a : Option Addr} {n c : Nat} {a' : Option Addr} {n' c' : Nat} {U U' : World} {D : Nat} (h : KO w p a n c a' n' c' U) (hb : Itr D U U') (hD : w.heap.size ≤ D) (hU : D ≤ U.heap.size) : KO w p a n c a' n' c' U' :=
 ⟨hb.obj h.b0, hb.obj h.b1, hb.obj h.b3, hb.obj h.b4, h.bel.trans ((hb.below hU).mono hD)⟩
theorem KO.on {w : World} {p : Nat} {a : Option Addr} {n c : Nat} {a' : Option Addr} {n' c' : Nat} {U U' : World} (h : KO w p a n c a' n' c' U) (hb : Below U.heap.size U U') : KO w p a n c a' n' c' U' := h.itr (itr_of_below hb U.heap.size) (Nat.le_of_lt (by have := h.lt; omega)) (Nat.le_refl _)
theorem KO.more {w : World} {p : Nat} {a : Option Addr} {n c : Nat} {a' : Option Addr} {n' c' : Nat} {U U' : World} (h : KO w p a n c a' n' c' U) {v : Value} {m : Nat} {xs : List Value} (ho : U.ownsRow w.heap.size 40 6 v m xs) (o : Obj) (hg : (U.alloc o).grownBy U' v.ownBlock) (u : Value) : KO w p a n c a' n' c' (U'.setCell ⟨w.heap.size + 1 + 1, 0, none⟩ u) := by
 have q : ∀ {k T : Nat} {cs : Array Value}, U.heap[k]? = some (.cells cs T (0, 0)) → T ≠ 40 → k ≠ w.heap.size + 1 + 1 → (U'.setCell ⟨w.heap.size + 1 + 1, 0, none⟩ u).heap[k]? = some (.cells cs T (0, 0)) := fun h1 hT hk =>
  (heap_setCell_other _ _ _ _ hk).trans (grown_heap hg (vold h1 _) (own_ne ho h1 hT))
 exact ⟨q h.b0 (by decide) (by omega), q h.b1 (by decide) (by omega), q h.b3 (by decide) (by omega), q h.b4 (by decide) (by omega),
  ((Below.on h.bel (bel_new U o)).grown hg (by have := h.bel.size; simp; omega) (fun k hk => (ho.lt k hk).1)).setCell (p := ⟨w.heap.size + 1 + 1, 0, none⟩) (by show w.heap.size ≤ w.heap.size + 1 + 1; omega) _⟩
theorem take_mcs6 {F : Fo} {zs : List (List Int)} {xs : List (List Int)} {k : Nat} {x y : List Int} (h : xs[k]? = some x) (hy : vwv F zs x = y) : mcs ((xs.map (vwv F zs)).take (k + 1)) = mcs ((xs.map (vwv F zs)).take k) ++ y.map (Value.int .i64) := by
 rw [take_one (y := y) (by rw [List.getElem?_map, h, ← hy]; rfl), mcs_append]
 simp [mcs]
theorem vof_any {es : List Addr} {w0 w : World} {p mm : Nat} {F : Fo} (hP : Pg es w0 w p mm F) (hm : mm ≤ 900) (a : Option Addr) (n c : Nat) (rs : List (List Int)) (hr : RdM 3 w a n c rs) (hbt : ∀ r ∈ rs, ∀ z ∈ r, Bt z) (hn : n ≤ 1000)
  (a' : Option Addr) (n' c' : Nat) (zs : List (List Int)) (hz : RdM 3 w a' n' c' zs) :
  Calls Tryz.prog 8 #[.pointer (some ⟨p, 0, none⟩), .slice a n c, .slice a' n' c'] w fun e w' => ∃ v, e = .returned v ∧ OwM 6 40 w w' v (ofL F zs rs) := by
 refine (callsIn_wide (n := 6)).1 ?_
 obtain ⟨i0, hi, hi0, hi1, hi2⟩ := infoMP infoView
 have HI := hid (seen_hands hP (w.heap.size + 1 + 1 + 1 + 1) (w.heap.size + 1 + 1 + 1) a n c rs hr hbt)
 have hxl : (snL F rs).length ≤ 40000 := by
  have h1 := snL_len hP.ok.inv hP.ok.nof rs
  have h2 := hr.len
  omega
 have HBX : Hid (∀ x ∈ snL F rs, Bt (nm 0 x)) := fun x hx => by
  obtain ⟨r, _, h1⟩ := List.mem_flatMap.1 hx
  obtain ⟨y, h2, rfl⟩ := List.mem_map.1 h1
  obtain ⟨s, h3, _⟩ := wlk_buf _ _ _ _ y h2
  exact hP.ok.bof.keys _ (gt_keys h3)
 have HP := hid hP
 have HZ := hid hz
 clear hP hr hbt hz
 refine callsIn_of_wp_marks Tryz.func8 rfl trivial ?_ rfl
 simp only [Tryz.ntmps8, List.size_toArray, List.length_cons, List.length_nil, Nat.reduceAdd, Nat.reduceSub, Array.replicate_succ, Array.replicate_zero, List.push_toArray, List.append_toArray, List.nil_append, List.cons_append]
 gi_wp2
 refine ⟨trivial, (callsIn_wide.2 (seen_any a n c p _)).mono ?_⟩
 rintro e W1 ⟨rfl, hW1⟩
 have hb1 : Below w.heap.size w W1 := by
  rw [hW1]
  exact (((((Below.refl _ w).alloc (Nat.le_refl _) _).alloc (by simp) _).alloc (by simp; omega) _).alloc (by simp; omega) _).alloc (by simp; omega) _
 have hs1 : W1.heap.size = w.heap.size + 1 + 1 + 1 + 1 + 1 := by rw [hW1]; simp
 have h0 : W1.heap[w.heap.size]? = some (.cells #[.pointer (some ⟨p, 0, none⟩)] 26 (0, 0)) := by rw [hW1]; exact vold (vold (vold (vold (vnew w _ rfl) _) _) _) _
 have h1 : W1.heap[w.heap.size + 1]? = some (.cells #[.slice a' n' c'] 32 (0, 0)) := by rw [hW1]; exact vold (vold (vold (vnew _ _ (by simp)) _) _) _
 have h2 : W1.heap[w.heap.size + 1 + 1]? = some (.cells #[.slice none 0 0] 25 (0, 0)) := by rw [hW1]; exact vold (vold (vnew _ _ (by simp)) _) _
 have h3 : W1.heap[w.heap.size + 1 + 1 + 1]? = some (.cells #[.pointer (some ⟨p, 0, none⟩)] 26 (0, 0)) := by rw [hW1]; exact vold (vnew _ _ (by simp)) _
 have h4 : W1.heap[w.heap.size + 1 + 1 + 1 + 1]? = some (.cells #[.slice a n c] 23 (0, 0)) := by rw [hW1]; exact vnew _ _ (by simp)
 have hK1 : KO w p a n c a' n' c' W1 := ⟨h0, h1, h3, h4, hb1⟩
 simp only [World.size_alloc]
 clear hW1 h0 h1 h3 h4 hb1
 have HS1 := hid hs1
 clear hs1
 gi_wp2
 refine wp_range_capX (gf := 65) (bd := #[]) (cap := #[.pointer (some ⟨w.heap.size + 1 + 1 + 1 + 1, 0, none⟩), .pointer (some ⟨w.heap.size + 1 + 1 + 1, 0, none⟩)]) rfl (enters_of Tryz.func65 (by kernel_rfl) rfl) HI.out (fun _ => rfl)
  (fun k X U => ∃ v, U.heap[w.heap.size + 1 + 1]? = some (.cells #[v] 25 (0, 0)) ∧ U.ownsRow w.heap.size 40 6 v k (mcs (((snL F rs).map (vwv F zs)).take k)) ∧ X = v.ownBlock.toList ∧ KO w p a n c a' n' c' U)
  (fun _ _ => False)
  (fun k X U U' h hb => by
   obtain ⟨v, g1, g2, g3, g4⟩ := h
   exact ⟨v, hb.obj g1, hb.row g2, g3, g4.itr hb (by rw [HS1.out]; omega) (by have := g4.lt; rw [HS1.out]; omega)⟩)
  (fun co U U' h hb => h.elim)
  (fun k X U h => by obtain ⟨_, _, _, _, g4⟩ := h; exact g4.v)
  (fun k X U h q hq => by
   obtain ⟨v, _, g2, rfl, _⟩ := h
   exact (g2.lt q (by simpa using hq)).2)
  ⟨.slice none 0 0, h2, World.ownsRow_nil _ _ _ _, rfl, hK1⟩ ?round ?done ?stop
 case round =>
  rintro m l k X x U ⟨v, hb, hrow, rfl, hko⟩ hx hlt _
  match x, snL_size x (List.mem_of_getElem? hx) with
  | [z0, z1, z2], _ =>
  have hkx : k < (snL F rs).length := (List.getElem?_eq_some_iff.1 hx).1
  have hbz : Bt z0 := HBX.out _ (List.mem_of_getElem? hx)
  have HX := hid hx
  have hlt2 : w.heap.size + 1 + 1 + 1 + 1 + 1 + 1 < U.heap.size := by rw [HS1.out] at hlt; omega
  have hbU := bel_new U (.cells #[.int .i64 z0, .int .i64 z1, .int .i64 z2] 46)
  clear hx hlt
  simp only [encY, List.map_cons, List.map_nil]
  gi_wp2
  refine ⟨rnd_below (bel_new U _) _ _, fun U2 hkp hit => ?_⟩
  have hb2 : U2.heap[U.heap.size]? = some (.cells #[.int .i64 z0, .int .i64 z1, .int .i64 z2] 46 (0, 0)) := hkp.var (vnew U _ rfl) (by rw [HS1.out]; simp; omega)
  have hv2 := hit.obj (vold hb (.cells #[.int .i64 z0, .int .i64 z1, .int .i64 z2] 46))
  have hr2 := hit.row (ownsRow_below hrow hbU)
  have hk2 : KO w p a n c a' n' c' U2 := (hko.on hbU).itr hit (by rw [HS1.out]; omega) (by rw [HS1.out]; simp; omega)
  have hl2 := hkp.size
  rw [World.size_alloc] at hl2
  obtain ⟨va, vc, rfl⟩ := own_shp hr2
  have d0 := (Lib.cell_of_heap hb2 0).trans rfl
  have HB2 := hid hb2
  have CC := hid ((HP.out.on hk2.v.bel).sno hm z0 hbz)
  have hf2 := hk2.f
  have HR2 := hid hr2
  have HV2 := hid hv2
  have HK2 := hid hk2
  clear hkp hit hb hrow hko hbU hb2 hv2 hr2 hk2
  have hfl := fldS1
  gi_wp2
  refine ⟨trivial, (fun q => nomatch q), (CallsIn.inRound l (callsIn_wide.2 CC.out)).mono ?_⟩
  rintro e W3 ⟨r, rfl, -, -, hrq, hb3⟩
  have hB : r.buf = bufF F z0 := by
   have : r.q.buf = bufF F z0 := by rw [hrq]; rfl
   exact this
  have hK3 := HK2.out.on hb3
  have CZ := hid (vsize_any a' n' c' zs r.buf W3 (HZ.out.on hK3.v.bel))
  rw [hB] at CZ
  have HB := hid hB
  have hz3 := hK3.z
  have HB3 := hid hb3
  have HK3 := hid hK3
  clear hrq hb3 hK3 CC hf2 d0 hB
  rw [HB.out]
  gi_wp2
  refine ⟨trivial, (fun q => nomatch q), (CallsIn.inRound l (callsIn_wide.2 CZ.out)).mono ?_⟩
  rintro e W4 ⟨y0, y1, y2, rfl, hfz, hb4⟩
  have hsz := fnz_szf hfz
  have HY : Hid (vwv F zs [z0, z1, z2] = [z0, bufF F z0, z1, z2, y1, y2]) := by
   show [z0, bufF F z0, z1, z2] ++ szf zs (bufF F z0) = _
   rw [hsz]
   rfl
  have hbl := bel_new W4 (.cells #[.int .i64 y0, .int .i64 y1, .int .i64 y2] 67)
  have hbA := Below.on (Below.on HB3.out hb4) hbl
  have HK5 := hid ((HK3.out.on hb4).on hbl)
  obtain ⟨W5, hW5⟩ : ∃ W5, W5 = W4.alloc (.cells #[.int .i64 y0, .int .i64 y1, .int .i64 y2] 67) := ⟨_, rfl⟩
  rw [← hW5] at hbA HK5
  have hv5 := (hbA.block _ (Array.getElem?_eq_some_iff.1 HV2.out).1).trans HV2.out
  have hc5 := (hbA.block _ (Array.getElem?_eq_some_iff.1 HB2.out).1).trans HB2.out
  have hs5 : W5.heap[W4.heap.size]? = some (.cells #[.int .i64 y0, .int .i64 y1, .int .i64 y2] 67 (0, 0)) := by rw [hW5]; exact vnew _ _ rfl
  have hr5 := ownsRow_below HR2.out hbA
  have dv := vcell1 hv5
  have d0 := (Lib.cell_of_heap hc5 0).trans rfl
  have d1 := (Lib.cell_of_heap hc5 1).trans rfl
  have d2 := (Lib.cell_of_heap hc5 2).trans rfl
  have f1 := (Lib.cell_of_heap hs5 1).trans rfl
  have f2 := (Lib.cell_of_heap hs5 2).trans rfl
  have HV5 := hid hv5
  have HR5 := hid hr5
  have HBA := hid hbA
  have HW5 := hid hW5
  clear hfz hsz hb4 hbl hbA hW5 hv5 hc5 hs5 hr5 hz3 CZ
  gi_upto_region 6 with fail
  rw [← HW5.out]
  gi_wp2_with (gi_at_builtin; refine wpListIn_append_own_at _ rfl _ _ 25 rfl w.heap.size 40 i0 (.agg #[.int .i64 0, .int .i64 0, .int .i64 0, .int .i64 0, .int .i64 0, .int .i64 0]) 6 48 Tryz.underlying25 hi hi0 hi1 hi2 rfl (by decide) _ _ _ rfl (ownsRow_below HR5.out (bel_new W5 _)) ⟨W5.heap.size, 0, none⟩ 1 1 [.int .i64 z0, .int .i64 (bufF F z0), .int .i64 z1, .int .i64 z2, .int .i64 y1, .int .i64 y2] rfl rfl (cellsL W5 _ _) (by simp [Value.oneCell']) (by simp only [maxLen]; omega) (by omega) (by have := HK5.out.v.bel.size; simp; omega) ?_; intro v' w1 ho hg _ hp; obtain ⟨va', vc', rfl⟩ := own_shp ho; have hbx := grown_heap hg (vold HV5.out _) (own_ne HR5.out HV5.out (by decide)); have dv1 := vcell1 hbx; have fv1 := Lib.frozen_of_heap hbx 0)
  have hn' := own_ne ho hbx (by decide)
  replace hg : World.grownBy _ w1 (Value.slice va k vc).ownBlock := hg
  have hs2 : (W5.alloc (.cells #[.int .i64 z0, .int .i64 (bufF F z0), .int .i64 z1, .int .i64 z2, .int .i64 y1, .int .i64 y2] 40)).heap.size = W5.heap.size + 1 := by simp
  have hs4 := HBA.out.size
  refine ⟨(((rnd_below HBA.out _ _).then (rnd_below (bel_new W5 _) _ _)).then (rnd_grow hg _)).set (.inl (by rw [HS1.out]; omega)) _ _, (Value.slice va' (k + 1) vc').ownBlock.toList, fun q hq => ?_, _, heap_setCell_same _ _ 0 _ _ _ hbx, ?_, rfl, ?_⟩
  ·rcases hp with hp | hp
   ·rw [hp] at hq
    exact .inl hq
   ·rw [hp, hs2] at hq
    simp only [Option.toList_some, List.mem_singleton] at hq
    exact .inr (by omega)
  ·have := ownsRow_set ho ⟨w.heap.size + 1 + 1, 0, none⟩ hn' (.slice va' (k + 1) vc')
   rw [take_mcs6 HX.out HY.out]
   exact this
  ·exact HK5.out.more HR5.out _ hg _
 case done =>
  rintro D X U hD ⟨v, hb, hrow, rfl, hko⟩ hDX hKd
  obtain ⟨va, vc, rfl⟩ := own_shp hrow
  have dv := vcell1 hb
  have hlen : (snL F rs).length = (ofL F zs rs).length := by rw [ofL, List.length_map]
  rw [List.take_of_length_le (by rw [List.length_map]; exact Nat.le_refl _)] at hrow
  have hbp : RowKit.Below w.heap.size w (U.putObj D (.deferred none)) := hko.bel.trans (vput _ _ _ (by rw [HS1.out] at hD; omega))
  have HO : Hid (OwM 6 40 w (U.putObj D (.deferred none)) (.slice va (snL F rs).length vc) (ofL F zs rs)) := ⟨by rw [← hlen]; exact (itr_put (D := w.heap.size) U D _ (.deferred none) (by rw [HS1.out] at hD; omega) hKd rfl).row hrow, hbp, ofL_size _ _ _⟩
  clear hrow hko hlen hbp
  gi_wp2
  refine ⟨by simp, .inl ⟨_, _, rfl, run_takeDeferred hKd, ?_⟩⟩
  exact ⟨.slice va (snL F rs).length vc, (by simp [results, Tryz.f8, go_sem]), .slice va (snL F rs).length vc, rfl, HO.out⟩
 case stop => exact fun _ _ _ _ h => h.elim
end
section
variable {base : Nat} {X : List Nat} {w : World} {q : Nat} {v : Value} {L : Ro}
def SIs (v : Value) (L : Ro) (id : Int) (r : Option Addr) : Prop := match gt L id with
 | none => r = none
 | some s => ∃ g i, r = some ⟨g, i * 33, none⟩ ∧ v.ownBlock = some g ∧ L[i]? = some (id, s)
theorem key_none {L : Ro} {id : Int} (h : ∀ (j : Nat) (e : Int × Sr), j < L.length → L[j]? = some e → e.1 ≠ id) : gt L id = none := by
 rw [gt_none]
 intro hm
 obtain ⟨e, he, rfl⟩ := List.mem_map.1 hm
 obtain ⟨j, hj⟩ := List.getElem?_of_mem he
 exact h j e (List.getElem?_eq_some_iff.1 hj).1 hj rfl
theorem key_some {L : Ro} {id : Int} {i : Nat} {s : Sr} (h : ∀ (j : Nat) (e : Int × Sr), j < i → L[j]? = some e → e.1 ≠ id) (hi : L[i]? = some (id, s)) : gt L id = some s := by
 induction L generalizing i with
 | nil => simp at hi
 | cons e L ih =>
  rw [gt]
  cases i with
  | zero =>
   simp only [List.getElem?_cons_zero, Option.some.injEq] at hi
   subst hi
   rw [if_pos rfl]
  | succ i =>
   rw [if_neg (h 0 e (by omega) rfl)]
   exact ih (i := i) (fun j e' hj he => h (j + 1) e' (Nat.succ_lt_succ hj) (by simpa using he)) (by simpa using hi)
theorem infoS : (Tryz.prog.info? 78).map (·.size) = some 33 := by kernel_rfl
theorem rs_any (h : Df base X w q v L) (id : Int) :
  Calls Tryz.prog 26 #[.pointer (some ⟨q, 0, none⟩), .int .i64 id] w fun e w' => ∃ r, e = .returned (.pointer r) ∧ SIs v L id r ∧ w' = w := by
 obtain ⟨a, c, hv, hle, hmx, c0, hat⟩ := h.val
 simp only [maxLen] at hmx
 have HAT := hid hat
 obtain ⟨n, hn⟩ : ∃ n, n = L.length := ⟨_, rfl⟩
 have HN := hid hn
 rw [← hn] at c0 hle
 have hlt := h.lt
 clear h hv hat hn
 go_enter Tryz.func26, Tryz.ntmps26
 go_wp2
 go_loopw [5] (fun i wr => ∃ j : Nat, i = .int .i64 j ∧ j ≤ n ∧ (∀ (k : Nat) (e : Int × Sr), k < j → L[k]? = some e → e.1 ≠ id) ∧ wr = w) (fun i _ => n - (numOf i).toNat)
 case atStart => exact ⟨0, rfl, by omega, fun k _ hk => absurd hk (by omega), rfl⟩
 case round =>
  obtain ⟨j, rfl, hj, hq, rfl⟩ := hrel
  by_cases hgo : j < n
  ·have e1 : decide ((j : Int) < n) = true := decide_eq_true (by omega)
   have e2 : (j : Int) < n := by omega
   obtain ⟨⟨k, s⟩, he⟩ : ∃ e, L[j]? = some e := ⟨_, List.getElem?_eq_getElem (by rw [← HN.out]; exact hgo)⟩
   obtain ⟨g, rfl, hg, hcell⟩ := HAT.out j (k, s) he
   have c1 : wr.cell? ⟨g, j * 33, none⟩ = some (.int .i64 k) := hcell 0 (by omega)
   have HE := hid he
   have HQ := hid hq
   have HG := hid hg
   clear he hq hg hcell
   cases hs : (k == id)
   ·have HQ2 : Hid (∀ (m : Nat) (e : Int × Sr), m < j + 1 → L[m]? = some e → e.1 ≠ id) := fun m e hm hme => by
     rcases Nat.lt_or_ge m j with h' | h'
     ·exact HQ.out m e h' hme
     ·obtain rfl : m = j := by omega
      rw [HE.out] at hme
      cases hme
      exact fun e => by rw [show k = id from e] at hs; simp at hs
    go_wp2
    go_roundw
    case rel => exact ⟨j + 1, by go_num, by omega, HQ2.out, trivial⟩
    case measure => simp [numOf]; omega
   ·have HK : Hid (k = id) := beq_iff_eq.1 hs
    go_wp2
    go_ret
    refine ⟨_, rfl, ?_, rfl⟩
    have he := HE.out
    rw [HK.out] at he
    rw [SIs, key_some HQ.out he]
    exact ⟨g, j, rfl, HG.out, he⟩
  ·have e1 : decide ((j : Int) < n) = false := decide_eq_false (by omega)
   have HZ : Hid (gt L id = none) := key_none fun m e hm hme => hq m e (by rw [← HN.out] at hm; omega) hme
   clear hq
   go_wp2
   go_ret
   refine ⟨_, rfl, ?_, rfl⟩
   rw [SIs, HZ.out]
end
section
variable {base : Nat} {X : List Nat} {w : World} {q : Nat} {v : Value} {L : Ro}
theorem Df.at_ (h : Df base X w q v L) {i g : Nat} {e : Int × Sr} (he : L[i]? = some e) (hg : v.ownBlock = some g) {j : Nat} (hj : j < 33) : w.cell? ⟨g, i * 33 + j, none⟩ = (scs e)[j]? := by
 obtain ⟨a, c, _, _, _, _, hat⟩ := h.val
 obtain ⟨g', _, hg', hc⟩ := hat i e he
 rw [hg] at hg'
 cases hg'
 exact hc j hj
theorem SIs.no {r : Option Addr} {id : Int} (h : SIs v L id r) (hs : gt L id = none) : r = none := by
 rw [SIs, hs] at h
 exact h
theorem SIs.ys {r : Option Addr} {id : Int} (h : SIs v L id r) {s : Sr} (hs : gt L id = some s) : ∃ g i, r = some ⟨g, i * 33, none⟩ ∧ v.ownBlock = some g ∧ L[i]? = some (id, s) := by
 rw [SIs, hs] at h
 exact h
theorem edge_any (z : Int) (w : World) : Calls Tryz.prog 94 #[.int .i64 z] w fun e w' => e = .returned (.int .i64 (edg z)) ∧ w' = w := by
 have HE : Hid (edg z = min (max z (-16777216)) 16777216) := rfl
 go_enter Tryz.func94, Tryz.ntmps94
 go_wp2
 go_ret
 exact ⟨rfl, rfl⟩
theorem rsynced_any (h : Df base X w q v L) (hA : Acy (abs L)) : ∀ (d : Nat) (x : Int), dpt (abs L) x ≤ d →
  Calls Tryz.prog 102 #[.pointer (some ⟨q, 0, none⟩), .int .i64 x] w fun e w' => e = .returned (.bool (sy (abs L) x)) ∧ w' = w := by
 intro d
 induction d with
 | zero =>
  intro x hx
  have HS := hid (rs_any h x)
  have hn : gt (abs L) x = none := by
   cases hg : gt (abs L) x with
   | none => rfl
   | some s =>
    have := dpt_lt hA hg
    omega
  have hn' : gt L x = none := by
   rw [gt_abs] at hn
   exact Option.map_eq_none_iff.1 hn
  rw [sy_none hn]
  have HN := hid hn'
  clear h hx hn hn' hA
  go_enter Tryz.func102, Tryz.ntmps102
  go_wp2_with fail
  refine HS.out.mono ?_
  rintro e w1 ⟨r, rfl, hr, rfl⟩
  obtain rfl := hr.no HN.out
  clear hr HS
  go_wp2
  go_ret
  exact ⟨rfl, rfl⟩
 | succ d ih =>
  intro x hx
  have HS := hid (rs_any h x)
  cases hn : gt L x with
  | none =>
   have hn' : gt (abs L) x = none := by rw [gt_abs, hn]; rfl
   rw [sy_none hn']
   have HN := hid hn
   clear h hx hn hn' hA ih
   go_enter Tryz.func102, Tryz.ntmps102
   go_wp2_with fail
   refine HS.out.mono ?_
   rintro e w1 ⟨r, rfl, hr, rfl⟩
   obtain rfl := hr.no HN.out
   clear hr HS
   go_wp2
   go_ret
   exact ⟨rfl, rfl⟩
  | some s =>
   have hn' : gt (abs L) x = some s.f := by rw [gt_abs, hn]; rfl
   have HI := hid (ih s.par (by have := dpt_lt hA hn'; have e : s.f.par = s.par := rfl; rw [e] at this; omega))
   rw [sy_some hn']
   have HN := hid hn
   have H := hid h
   have e1 : s.f.par = s.par := rfl
   have e2 : s.f.syn = s.syn := rfl
   rw [e1, e2]
   obtain ⟨z, hz⟩ : ∃ z, z = (s.par != 0 && (s.syn || sy (abs L) s.par)) := ⟨_, rfl⟩
   rw [← hz]
   have HZ := hid hz
   clear hz h hx hn hn' hA ih e1 e2
   go_enter Tryz.func102, Tryz.ntmps102
   go_wp2_with fail
   refine HS.out.mono ?_
   rintro e w1 ⟨r, rfl, hr, rfl⟩
   obtain ⟨g, i, rfl, hg, hi⟩ := hr.ys HN.out
   have c1 : w1.cell? ⟨g, i * 33 + 1, none⟩ = some (.int .i64 s.par) := H.out.at_ hi hg (by omega)
   have c2 : w1.cell? ⟨g, i * 33 + 2, none⟩ = some (.bool s.syn) := H.out.at_ hi hg (by omega)
   clear hr HS hg hi HN
   generalize s.par = p at *
   generalize s.syn = b at *
   generalize sy (abs L) p = y at *
   cases hp : (p != 0)
   ·go_wp2
    go_ret
    rw [HZ.out, hp]
    exact ⟨rfl, rfl⟩
   ·cases b with
    | true =>
     go_wp2
     go_ret
     rw [HZ.out, hp]
     exact ⟨rfl, rfl⟩
    | false =>
     go_wp2_with fail
     refine HI.out.mono ?_
     rintro e w2 ⟨rfl, rfl⟩
     go_wp2
     go_ret
     rw [HZ.out, hp]
     exact ⟨rfl, rfl⟩
theorem latest_any (h : Df base X w q v L) {i g : Nat} {id : Int} {s : Sr} (hi : L[i]? = some (id, s)) (hg : v.ownBlock = some g) :
  Calls Tryz.prog 85 #[.pointer (some ⟨g, i * 33, none⟩)] w fun e w' => e = .returned (.slice (latS s).a (latS s).n (latS s).c) ∧ w' = w := by
 have c1 : w.cell? ⟨g, i * 33 + 3 + 7, none⟩ = some (.bool s.pe.ord) := h.at_ hi hg (j := 10) (by omega)
 have c2 : w.cell? ⟨g, i * 33 + 3 + 8, none⟩ = some (.slice s.pe.od.a s.pe.od.n s.pe.od.c) := h.at_ hi hg (j := 11) (by omega)
 have c3 : w.cell? ⟨g, i * 33 + 13 + 7, none⟩ = some (.bool s.ca.ord) := h.at_ hi hg (j := 20) (by omega)
 have c4 : w.cell? ⟨g, i * 33 + 13 + 8, none⟩ = some (.slice s.ca.od.a s.ca.od.n s.ca.od.c) := h.at_ hi hg (j := 21) (by omega)
 have c5 : w.cell? ⟨g, i * 33 + 23 + 8, none⟩ = some (.slice s.no.od.a s.no.od.n s.no.od.c) := h.at_ hi hg (j := 31) (by omega)
 have HL : Hid (latS s = bif s.pe.ord then s.pe.od else bif s.ca.ord then s.ca.od else s.no.od) := rfl
 clear h hi hg
 generalize latS s = ls at *
 go_enter Tryz.func85, Tryz.ntmps85
 cases h1 : s.pe.ord with
 | true =>
  rw [h1] at HL
  have hl : ls = s.pe.od := HL.out
  subst hl
  go_wp2
  go_ret
  exact ⟨rfl, rfl⟩
 | false =>
  cases h2 : s.ca.ord with
  | true =>
   rw [h1, h2] at HL
   have hl : ls = s.ca.od := HL.out
   subst hl
   go_wp2
   go_ret
   exact ⟨rfl, rfl⟩
  | false =>
   rw [h1, h2] at HL
   have hl : ls = s.no.od := HL.out
   subst hl
   go_wp2
   go_ret
   exact ⟨rfl, rfl⟩
end
end Go.Proofs.YtkjempffidndeaaGreatDoor
