/- Lemmas that the proof leans on. -/
import Derived.Test.YtpbgbpcdohdecaaGreatDoorB34
namespace Go.Proofs.YtpbgbpcdohdecaaGreatDoor
open Go Go.RowKit
set_option maxRecDepth 100000
set_option maxHeartbeats 8000000
section
section
variable {es : List Addr} {w0 w w' : World} {c : Ca} {i : Int} {k : Kl} {X : List Nat}
def adF (face q : Int) (l : List AV) : Int := if face = 2 then (faceOf (l.getD 1 av0).s : Nat) else rqM face q
def adV (k : Kl) (face o : Int) (l : List AV) : Int := if face = 2 then (l.getD 2 av0).n else (k.ids o).2
def AddT (es : List Addr) (w0 : World) (c : Ca) (i : Int) (k : Kl) (X : List Nat) (w : World) (m F V : Int) (e : Ending) (w' : World) : Prop :=
 if addE_IdsA k.ids m F V = 0 then e = .returned .nilIface ∧ Nx (Tcl w0 c i { k with ids := addS k.ids m F V }) X w w'
 else ∃ v, e = .returned v ∧ FtV w' es v 1 (addE_IdsA k.ids m F V) ∧ Nx (Tcl w0 c i k) X w w'
def AddR (es : List Addr) (w0 : World) (c : Ca) (i : Int) (k : Kl) (X : List Nat) (w : World) (face q o : Int) (l : List AV) (e : Ending) (w' : World) : Prop :=
 if face = 2 ∧ bndB l = false then e = .returned (erv es 1) ∧ Nx (Tcl w0 c i k) X w w'
 else if adF face q l = 0 then e = .returned .nilIface ∧ Nx (Tcl w0 c i k) X w w'
 else AddT es w0 c i k X w (mdO l) (adF face q l) (adV k face o l) e w'
def Ends1 (A : Act) (S : World → Prop) : Exit → Act → World → Prop
 | .normal => fun a u => a = A ∧ S u
 | _ => fun _ _ => False
theorem wp_same {P : Program} {cd : Code} {Q : Exit → Act → World → Prop} {a A : Act} {w : World} {S : World → Prop} (h : cd.wp P (Ends1 A S) a w) (hq : ∀ u, S u → Q .normal A u) : cd.wp P Q a w :=
 wp_mono h (fun x a u h => by
  cases x with
  | normal =>
   obtain ⟨h1, h2⟩ := h
   rw [h1]
   exact hq u h2
  | _ => exact h.elim)
theorem addE_le_DpP (s : Int → Int × Int) (m F V : Int) : addE_IdsA s m F V ≤ 16 := by
 unfold addE_IdsA
 split
 ·decide
 ·split <;> decide
theorem erv_if (es : List Addr) : ∀ {k : Nat}, 1 ≤ k → ∃ t q, erv es k = .iface t q
 | 0, h => absurd h (by omega)
 | _ + 1, _ => ⟨_, _, rfl⟩
theorem mdO_bd : ∀ {l : List AV}, (∀ y ∈ l, y.Ok) → -9223372036854775808 ≤ mdO l ∧ mdO l ≤ 9223372036854775807
 | [], _ => by simp [mdO]
 | y :: l, h => by
  rw [mdO]
  split
  ·exact ⟨(h y (List.mem_cons_self ..)).lo, (h y (List.mem_cons_self ..)).hi⟩
  ·exact mdO_bd fun z hz => h z (List.mem_cons_of_mem _ hz)
theorem cadd_any (hA : All w0 es) (hE : Errs w0 gerrs es) (h : Tcl w0 c i k w X) (hG : Glb w) (face o q : Int) (ho : -9223372036854775808 ≤ o ∧ o ≤ 9223372036854775807) (x : Option Addr) (n cc : Nat) (l : List AV) (hr : RdA w x n cc l) (hf : face = 2 → 3 ≤ n) :
  Calls Tryz.prog 44 #[ptz c.q, .int .i64 face, .agg #[.int .i64 o, .int .i64 q, .slice x n cc]] w (AddR es w0 c i k X w face q o l) := by
 obtain ⟨v, hv, _⟩ := clt_var h
 have c1 : w.cell? ⟨c.q, 1, none⟩ = some (ptz c.ob) := by rw [Lib.cell_of_heap hv]; rfl
 have lq : c.q < w.heap.size := (Array.getElem?_eq_some_iff.1 hv).1
 have HB := hid (bel_mkK w (.cells #[.int .i64 o, .int .i64 q, .slice x n cc] 42))
 have hvb := heap_alloc_new w (.cells #[.int .i64 o, .int .i64 q, .slice x n cc] 42)
 have HV : Hid (∀ u, Below w.heap.size w u → Calls Tryz.prog 75 #[ptz c.ob, .int .i64 o] u fun e w' => e = .returned (.int .i64 (k.ids o).2) ∧ w' = u) := fun u hu => by
  obtain ⟨Y, hY, _⟩ := (lcl_ids k.ids).get ((tcl_ft w0 c i k).on h hu)
  exact hY.ver o ho
 have HH := hid h
 have HR := hid hr
 have HG := hid hG
 have HA := hid hA
 have HE := hid hE
 clear h hr hG hA hE hv
 go_enter Tryz.func44, Tryz.ntmps44
 go_wp2_with fail
 apply wp_same (S := fun u => Below w.heap.size w u ∧ u.heap[w.heap.size]? = some (.cells #[.int .i64 o, .int .i64 q, .slice x n cc] 42 (0, 0)))
 case h =>
  have hHeld := (⟨HB.out.drew, hvb⟩ : Below w.heap.size w (w.alloc (.cells #[.int .i64 o, .int .i64 q, .slice x n cc] 42)).drew ∧ (w.alloc (.cells #[.int .i64 o, .int .i64 q, .slice x n cc] 42)).drew.heap[w.heap.size]? = some (.cells #[.int .i64 o, .int .i64 q, .slice x n cc] 42 (0, 0)))
  refine wp_region_held_drew (S := fun x0 => Below w.heap.size w x0 ∧ x0.heap[w.heap.size]? = some (.cells #[.int .i64 o, .int .i64 q, .slice x n cc] 42 (0, 0))) (by kernel_rfl) hHeld (fun _ => ?_)
  refine wpAnyH_take (i := 0) (v := ?_) rfl (by kernel_rfl) (by kernel_rfl) (by kernel_rfl) (fun _ _ _ h => h) (Or.inl ⟨by kernel_rfl, ?hy0⟩) (by assumption) ?_
  case hy0 => (intro w hSw; (try dsimp only at hSw); obtain ⟨q1, q2⟩ := hSw; have t0 := (Lib.cell_of_heap q2 0).trans (rfl : _ = some (Value.int .i64 o)); have t1 := (Lib.cell_of_heap q2 1).trans (rfl : _ = some (Value.int .i64 q)); have t2 := (q1.cell lq).trans c1; go_simp; try with_reducible rfl)
  try simp only [Act.put, List.getElem_toArray, List.getElem_cons_zero, List.setIfInBounds_toArray, List.set_cons_zero, List.set_cons_succ]
  refine wpAnyH_take (i := 1) (v := ?_) rfl (by kernel_rfl) (by kernel_rfl) (by kernel_rfl) (fun _ _ _ h => h) (Or.inl ⟨by kernel_rfl, ?hy1⟩) (by assumption) ?_
  case hy1 => (intro w hSw; (try dsimp only at hSw); obtain ⟨q1, q2⟩ := hSw; have t0 := (Lib.cell_of_heap q2 0).trans (rfl : _ = some (Value.int .i64 o)); have t1 := (Lib.cell_of_heap q2 1).trans (rfl : _ = some (Value.int .i64 q)); have t2 := (q1.cell lq).trans c1; go_simp; try with_reducible rfl)
  try simp only [Act.put, List.getElem_toArray, List.getElem_cons_zero, List.getElem_cons_succ, List.setIfInBounds_toArray, List.set_cons_zero, List.set_cons_succ]
  refine wpAnyH_take (i := 2) (v := ?_) rfl (by kernel_rfl) (by kernel_rfl) (by kernel_rfl) (fun _ _ _ h => h) (Or.inl ⟨by kernel_rfl, ?hy2⟩) (by assumption) ?_
  case hy2 => (intro w hSw; (try dsimp only at hSw); obtain ⟨q1, q2⟩ := hSw; have t0 := (Lib.cell_of_heap q2 0).trans (rfl : _ = some (Value.int .i64 o)); have t1 := (Lib.cell_of_heap q2 1).trans (rfl : _ = some (Value.int .i64 q)); have t2 := (q1.cell lq).trans c1; go_simp; try with_reducible rfl)
  try simp only [Act.put, List.getElem_toArray, List.getElem_cons_zero, List.getElem_cons_succ, List.setIfInBounds_toArray, List.set_cons_zero, List.set_cons_succ]
  refine wpAnyH_take (i := 4) (v := ?_) rfl (by kernel_rfl) (by kernel_rfl) (by kernel_rfl) (fun _ _ _ h => h) (Or.inl ⟨by kernel_rfl, ?hy4⟩) (by assumption) ?_
  case hy4 => (intro w hSw; (try dsimp only at hSw); obtain ⟨q1, q2⟩ := hSw; have t0 := (Lib.cell_of_heap q2 0).trans (rfl : _ = some (Value.int .i64 o)); have t1 := (Lib.cell_of_heap q2 1).trans (rfl : _ = some (Value.int .i64 q)); have t2 := (q1.cell lq).trans c1; go_simp; try with_reducible rfl)
  try simp only [Act.put, List.getElem_toArray, List.getElem_cons_zero, List.getElem_cons_succ, List.setIfInBounds_toArray, List.set_cons_zero, List.set_cons_succ]
  refine wpAnyH_take (i := 5) (v := ?_) rfl (by kernel_rfl) (by kernel_rfl) (by kernel_rfl) (fun _ _ _ h => h) (Or.inl ⟨by kernel_rfl, ?hy5⟩) (by assumption) ?_
  case hy5 => (intro w hSw; (try dsimp only at hSw); obtain ⟨q1, q2⟩ := hSw; have t0 := (Lib.cell_of_heap q2 0).trans (rfl : _ = some (Value.int .i64 o)); have t1 := (Lib.cell_of_heap q2 1).trans (rfl : _ = some (Value.int .i64 q)); have t2 := (q1.cell lq).trans c1; go_simp; try with_reducible rfl)
  try simp only [Act.put, List.getElem_toArray, List.getElem_cons_zero, List.getElem_cons_succ, List.setIfInBounds_toArray, List.set_cons_zero, List.set_cons_succ]
  refine wpAnyH_take (i := 6) (v := ?_) rfl (by kernel_rfl) (by kernel_rfl) (by kernel_rfl) (fun _ _ _ h => h) (Or.inl ⟨by kernel_rfl, ?hy6⟩) (by assumption) ?_
  case hy6 => (intro w hSw; (try dsimp only at hSw); obtain ⟨q1, q2⟩ := hSw; have t0 := (Lib.cell_of_heap q2 0).trans (rfl : _ = some (Value.int .i64 o)); have t1 := (Lib.cell_of_heap q2 1).trans (rfl : _ = some (Value.int .i64 q)); have t2 := (q1.cell lq).trans c1; go_simp; try with_reducible rfl)
  try simp only [Act.put, List.getElem_toArray, List.getElem_cons_zero, List.getElem_cons_succ, List.setIfInBounds_toArray, List.set_cons_zero, List.set_cons_succ]
  refine wpAnyH_take (i := 7) (v := ?_) rfl (by kernel_rfl) (by kernel_rfl) (by kernel_rfl) (fun _ _ _ h => h) (Or.inl ⟨by kernel_rfl, ?hy7⟩) (by assumption) ?_
  case hy7 => (intro w hSw; (try dsimp only at hSw); obtain ⟨q1, q2⟩ := hSw; have t0 := (Lib.cell_of_heap q2 0).trans (rfl : _ = some (Value.int .i64 o)); have t1 := (Lib.cell_of_heap q2 1).trans (rfl : _ = some (Value.int .i64 q)); have t2 := (q1.cell lq).trans c1; go_simp; try with_reducible rfl)
  try simp only [Act.put, List.getElem_toArray, List.getElem_cons_zero, List.getElem_cons_succ, List.setIfInBounds_toArray, List.set_cons_zero, List.set_cons_succ]
  refine wpAnyH_take (i := 8) (v := ?_) rfl (by kernel_rfl) (by kernel_rfl) (by kernel_rfl) (fun _ _ _ h => h) (Or.inl ⟨by kernel_rfl, ?hy8⟩) (by assumption) ?_
  case hy8 => (intro w hSw; (try dsimp only at hSw); obtain ⟨q1, q2⟩ := hSw; have t0 := (Lib.cell_of_heap q2 0).trans (rfl : _ = some (Value.int .i64 o)); have t1 := (Lib.cell_of_heap q2 1).trans (rfl : _ = some (Value.int .i64 q)); have t2 := (q1.cell lq).trans c1; go_simp; try with_reducible rfl)
  try simp only [Act.put, List.getElem_toArray, List.getElem_cons_zero, List.getElem_cons_succ, List.setIfInBounds_toArray, List.set_cons_zero, List.set_cons_succ]
  refine wpAnyH_take (i := 9) (v := ?_) rfl (by kernel_rfl) (by kernel_rfl) (by kernel_rfl) (fun _ _ _ h => h) (Or.inl ⟨by kernel_rfl, ?hy9⟩) (by assumption) ?_
  case hy9 => (intro w hSw; (try dsimp only at hSw); obtain ⟨q1, q2⟩ := hSw; have t0 := (Lib.cell_of_heap q2 0).trans (rfl : _ = some (Value.int .i64 o)); have t1 := (Lib.cell_of_heap q2 1).trans (rfl : _ = some (Value.int .i64 q)); have t2 := (q1.cell lq).trans c1; go_simp; try with_reducible rfl)
  try simp only [Act.put, List.getElem_toArray, List.getElem_cons_zero, List.getElem_cons_succ, List.setIfInBounds_toArray, List.set_cons_zero, List.set_cons_succ]
  refine wpAnyH_ready (rs := [3]) (by kernel_rfl) (by simp) ?_
  refine AllReadyH.cons rfl (fun K hK => ?_) AllReadyH.nil
  go_simp
  go_wp2_with fail
  refine (Makes_any face q _).mono ?_
  rintro e u3 ⟨rfl, hb3⟩
  have hS3 := (⟨Below.on hHeld.1 hb3, (kp_of_below hb3 []).var hHeld.2 (by simp)⟩ : Below w.heap.size w u3 ∧ u3.heap[w.heap.size]? = some (.cells #[.int .i64 o, .int .i64 q, .slice x n cc] 42 (0, 0)))
  refine hK.out _ _ hS3 (fun _ => ?_)
  clear hK K hHeld hb3
  have hHeld := hS3
  clear hS3
  try simp only [Act.put, List.getElem_toArray, List.getElem_cons_zero, List.getElem_cons_succ, List.setIfInBounds_toArray, List.set_cons_zero, List.set_cons_succ]
  refine wpAnyH_ready (rs := [10]) (by kernel_rfl) (by simp) ?_
  refine AllReadyH.cons rfl (fun K hK => ?_) AllReadyH.nil
  go_simp
  go_wp2_with fail
  refine (HV.out _ hHeld.1).mono ?_
  rintro e u10 ⟨rfl, rfl⟩
  refine hK.out _ _ hHeld (fun _ => ?_)
  clear hK K
  try simp only [Act.put, List.getElem_toArray, List.getElem_cons_zero, List.getElem_cons_succ, List.setIfInBounds_toArray, List.set_cons_zero, List.set_cons_succ]
  refine wpAnyH_take (i := 11) (v := ?_) rfl (by kernel_rfl) (by kernel_rfl) (by kernel_rfl) (fun _ _ _ h => h) (Or.inl ⟨by kernel_rfl, ?hy11⟩) (by assumption) ?_
  case hy11 => (intro w hSw; (try dsimp only at hSw); obtain ⟨q1, q2⟩ := hSw; have t0 := (Lib.cell_of_heap q2 0).trans (rfl : _ = some (Value.int .i64 o)); have t1 := (Lib.cell_of_heap q2 1).trans (rfl : _ = some (Value.int .i64 q)); have t2 := (q1.cell lq).trans c1; go_simp; try with_reducible rfl)
  try simp only [Act.put, List.getElem_toArray, List.getElem_cons_zero, List.getElem_cons_succ, List.setIfInBounds_toArray, List.set_cons_zero, List.set_cons_succ]
  refine wpAnyH_take (i := 12) (v := ?_) rfl (by kernel_rfl) (by kernel_rfl) (by kernel_rfl) (fun _ _ _ h => h) (Or.inl ⟨by kernel_rfl, ?hy12⟩) (by assumption) ?_
  case hy12 => (intro w hSw; (try dsimp only at hSw); obtain ⟨q1, q2⟩ := hSw; have t0 := (Lib.cell_of_heap q2 0).trans (rfl : _ = some (Value.int .i64 o)); have t1 := (Lib.cell_of_heap q2 1).trans (rfl : _ = some (Value.int .i64 q)); have t2 := (q1.cell lq).trans c1; go_simp; try with_reducible rfl)
  try simp only [Act.put, List.getElem_toArray, List.getElem_cons_zero, List.getElem_cons_succ, List.setIfInBounds_toArray, List.set_cons_zero, List.set_cons_succ]
  refine wpAnyH_done (by kernel_rfl) ?_ _
  exact ⟨rfl, hHeld⟩
 case hq =>
  intro u ⟨hBu, hvu⟩
  have HBu := hid hBu
  have Hvu := hid hvu
  have lw : w.heap.size < u.heap.size := (Array.getElem?_eq_some_iff.1 hvu).1
  have lqu : c.q < u.heap.size := Nat.lt_of_lt_of_le lq hBu.size
  have d2 : u.cell? ⟨w.heap.size, 2, none⟩ = some (.slice x n cc) := (by rw [Lib.cell_of_heap hvu]; rfl)
  clear HB HV hvb hBu hvu
  have HD : Hid (∀ F V z, Below w.heap.size w z → Calls Tryz.prog 78 #[ptz c.ob, .int .i64 (mdO l), .int .i64 F, .int .i64 V] z fun e w' => e = .returned (erv es (addE_IdsA k.ids (mdO l) F V)) ∧ Nx (Tcl w0 c i { k with ids := addS k.ids (mdO l) F V }) X z w') := fun F V z hz =>
   (lcl_ids (addS k.ids (mdO l) F V)).ct (ti_add HE.out (mdO l) F V (mdO_bd (fun y hy => HR.out.wf y hy))) z X ((tcl_ft w0 c i k).on HH.out hz)
  by_cases h2 : face = 2
  ·subst h2
   have hn3 := hf rfl
   have hr' := HR.out.kpz (kp_of_below HBu.out []) (by simp)
   have HM := hid (maybind_any x n cc l hr' hn3 (HG.out.on HBu.out))
   clear hr'
   go_wp2_with fail
   have HMw := HM
   clear HM
   refine HMw.out.mono ?_
   rintro e u1 ⟨rfl, hb1⟩
   have HB1 := hid (Below.on HBu.out hb1)
   have hv1 := (kp_of_below hb1 []).var Hvu.out (by simp)
   have d12 := (hb1.cell lw).trans d2
   clear hb1 HMw d2
   cases hbB : bndB l with
   | false =>
    have hg := Errs.at_ (HE.out.below (tcl_bel ((tcl_ft w0 c i k).on HH.out HB1.out))) 0 2 rfl
    go_wp2_with fail
    go_ret
    rw [AddR, if_pos ⟨rfl, hbB⟩]
    exact ⟨rfl, Nx.refl (tcl_ft w0 c i k) HH.out HB1.out⟩
   | true =>
    have hr1 := HR.out.kpz (kp_of_below HB1.out []) (by simp)
    have hlen := hr1.len
    have hc1 := hr1.le
    have hc2 := hr1.max
    simp only [maxLen] at hc2
    obtain ⟨bs, off, hxe, hbs, hcz⟩ := hr1.plain (by omega)
    obtain ⟨y1, hy1⟩ : ∃ y, l[1]? = some y := ⟨_, List.getElem?_eq_getElem (by omega)⟩
    obtain ⟨y2, hy2⟩ : ∃ y, l[2]? = some y := ⟨_, List.getElem?_eq_getElem (by omega)⟩
    have e1 := (hcz 1 y1 hy1).2.2
    have e2 := (hcz 2 y2 hy2).2.1
    simp only [Nat.one_mul] at e1 e2
    have lbs := World.block_lt_of_cell? _ _ e1
    have hF0 : adF 2 q l = ((faceOf y1.s : Nat) : Int) := by rw [adF, if_pos rfl, List.getD_eq_getElem?_getD, hy1]; rfl
    have hV0 : adV k 2 o l = y2.n := by rw [adV, if_pos rfl, List.getD_eq_getElem?_getD, hy2]; rfl
    have kn : (1 : Int) < (n : Int) ∧ (2 : Int) < (n : Int) := ⟨by omega, by omega⟩
    have hx2 : (some (Value.slice x n cc)) = some (Value.slice (some ⟨bs, off, none⟩) n cc) := by rw [hxe]
    clear hr1 hcz hy1 hy2
    go_wp2_with fail
    apply wp_same (S := fun z => Below w.heap.size w z ∧ z.heap[w.heap.size]? = some (.cells #[.int .i64 o, .int .i64 q, .slice x n cc] 42 (0, 0)))
    case h =>
     have hHeld := (⟨HB1.out.drew, (Below.refl _ _).drew⟩ : Below w.heap.size w u1.drew ∧ Below u1.heap.size u1 u1.drew)
     refine wp_region_held_drew (S := fun x0 => Below w.heap.size w x0 ∧ Below u1.heap.size u1 x0) (by kernel_rfl) hHeld (fun _ => ?_)
     refine wpAnyH_take (i := 0) (v := ?_) rfl (by kernel_rfl) (by kernel_rfl) (by kernel_rfl) (fun _ _ _ h => h) (Or.inl ⟨by kernel_rfl, ?hy0⟩) (by assumption) ?_
     case hy0 => (intro w hSw; (try dsimp only at hSw); have q2 := (kp_of_below hSw.2 []).var hv1 (by simp); have t2 := (Lib.cell_of_heap q2 2).trans (hx2 : _ = some (Value.slice (some ⟨bs, off, none⟩) n cc)); have k1 : (1 : Int) < (n : Int) := kn.1; have k2 : (2 : Int) < (n : Int) := kn.2; have t3 := (hSw.2.cell lbs).trans e1; have t4 := (hSw.2.cell lbs).trans e2; go_simp; (try rw [if_pos k1]); (try rw [if_pos k2]); try with_reducible rfl)
     try simp only [Act.put, List.getElem_toArray, List.getElem_cons_zero, List.setIfInBounds_toArray, List.set_cons_zero, List.set_cons_succ]
     refine wpAnyH_take (i := 1) (v := ?_) rfl (by kernel_rfl) (by kernel_rfl) (by kernel_rfl) (fun _ _ _ h => h) (Or.inl ⟨by kernel_rfl, ?hy1⟩) (by assumption) ?_
     case hy1 => (intro w hSw; (try dsimp only at hSw); have q2 := (kp_of_below hSw.2 []).var hv1 (by simp); have t2 := (Lib.cell_of_heap q2 2).trans (hx2 : _ = some (Value.slice (some ⟨bs, off, none⟩) n cc)); have k1 : (1 : Int) < (n : Int) := kn.1; have k2 : (2 : Int) < (n : Int) := kn.2; have t3 := (hSw.2.cell lbs).trans e1; have t4 := (hSw.2.cell lbs).trans e2; go_simp; (try rw [if_pos k1]); (try rw [if_pos k2]); try with_reducible rfl)
     try simp only [Act.put, List.getElem_toArray, List.getElem_cons_zero, List.getElem_cons_succ, List.setIfInBounds_toArray, List.set_cons_zero, List.set_cons_succ]
     refine wpAnyH_take (i := 2) (v := ?_) rfl (by kernel_rfl) (by kernel_rfl) (by kernel_rfl) (fun _ _ _ h => h) (Or.inl ⟨by kernel_rfl, ?hy2⟩) (by assumption) ?_
     case hy2 => (intro w hSw; (try dsimp only at hSw); have q2 := (kp_of_below hSw.2 []).var hv1 (by simp); have t2 := (Lib.cell_of_heap q2 2).trans (hx2 : _ = some (Value.slice (some ⟨bs, off, none⟩) n cc)); have k1 : (1 : Int) < (n : Int) := kn.1; have k2 : (2 : Int) < (n : Int) := kn.2; have t3 := (hSw.2.cell lbs).trans e1; have t4 := (hSw.2.cell lbs).trans e2; go_simp; (try rw [if_pos k1]); (try rw [if_pos k2]); try with_reducible rfl)
     try simp only [Act.put, List.getElem_toArray, List.getElem_cons_zero, List.getElem_cons_succ, List.setIfInBounds_toArray, List.set_cons_zero, List.set_cons_succ]
     refine wpAnyH_take (i := 3) (v := ?_) rfl (by kernel_rfl) (by kernel_rfl) (by kernel_rfl) (fun _ _ _ h => h) (Or.inl ⟨by kernel_rfl, ?hy3⟩) (by assumption) ?_
     case hy3 => (intro w hSw; (try dsimp only at hSw); have q2 := (kp_of_below hSw.2 []).var hv1 (by simp); have t2 := (Lib.cell_of_heap q2 2).trans (hx2 : _ = some (Value.slice (some ⟨bs, off, none⟩) n cc)); have k1 : (1 : Int) < (n : Int) := kn.1; have k2 : (2 : Int) < (n : Int) := kn.2; have t3 := (hSw.2.cell lbs).trans e1; have t4 := (hSw.2.cell lbs).trans e2; go_simp; (try rw [if_pos k1]); (try rw [if_pos k2]); try with_reducible rfl)
     try simp only [Act.put, List.getElem_toArray, List.getElem_cons_zero, List.getElem_cons_succ, List.setIfInBounds_toArray, List.set_cons_zero, List.set_cons_succ]
     refine wpAnyH_take (i := 4) (v := ?_) rfl (by kernel_rfl) (by kernel_rfl) (by kernel_rfl) (fun _ _ _ h => h) (Or.inl ⟨by kernel_rfl, ?hy4⟩) (by assumption) ?_
     case hy4 => (intro w hSw; (try dsimp only at hSw); have q2 := (kp_of_below hSw.2 []).var hv1 (by simp); have t2 := (Lib.cell_of_heap q2 2).trans (hx2 : _ = some (Value.slice (some ⟨bs, off, none⟩) n cc)); have k1 : (1 : Int) < (n : Int) := kn.1; have k2 : (2 : Int) < (n : Int) := kn.2; have t3 := (hSw.2.cell lbs).trans e1; have t4 := (hSw.2.cell lbs).trans e2; go_simp; (try rw [if_pos k1]); (try rw [if_pos k2]); try with_reducible rfl)
     try simp only [Act.put, List.getElem_toArray, List.getElem_cons_zero, List.getElem_cons_succ, List.setIfInBounds_toArray, List.set_cons_zero, List.set_cons_succ]
     refine wpAnyH_take (i := 6) (v := ?_) rfl (by kernel_rfl) (by kernel_rfl) (by kernel_rfl) (fun _ _ _ h => h) (Or.inl ⟨by kernel_rfl, ?hy6⟩) (by assumption) ?_
     case hy6 => (intro w hSw; (try dsimp only at hSw); have q2 := (kp_of_below hSw.2 []).var hv1 (by simp); have t2 := (Lib.cell_of_heap q2 2).trans (hx2 : _ = some (Value.slice (some ⟨bs, off, none⟩) n cc)); have k1 : (1 : Int) < (n : Int) := kn.1; have k2 : (2 : Int) < (n : Int) := kn.2; have t3 := (hSw.2.cell lbs).trans e1; have t4 := (hSw.2.cell lbs).trans e2; go_simp; (try rw [if_pos k1]); (try rw [if_pos k2]); try with_reducible rfl)
     try simp only [Act.put, List.getElem_toArray, List.getElem_cons_zero, List.getElem_cons_succ, List.setIfInBounds_toArray, List.set_cons_zero, List.set_cons_succ]
     refine wpAnyH_take (i := 7) (v := ?_) rfl (by kernel_rfl) (by kernel_rfl) (by kernel_rfl) (fun _ _ _ h => h) (Or.inl ⟨by kernel_rfl, ?hy7⟩) (by assumption) ?_
     case hy7 => (intro w hSw; (try dsimp only at hSw); have q2 := (kp_of_below hSw.2 []).var hv1 (by simp); have t2 := (Lib.cell_of_heap q2 2).trans (hx2 : _ = some (Value.slice (some ⟨bs, off, none⟩) n cc)); have k1 : (1 : Int) < (n : Int) := kn.1; have k2 : (2 : Int) < (n : Int) := kn.2; have t3 := (hSw.2.cell lbs).trans e1; have t4 := (hSw.2.cell lbs).trans e2; go_simp; (try rw [if_pos k1]); (try rw [if_pos k2]); try with_reducible rfl)
     try simp only [Act.put, List.getElem_toArray, List.getElem_cons_zero, List.getElem_cons_succ, List.setIfInBounds_toArray, List.set_cons_zero, List.set_cons_succ]
     refine wpAnyH_take (i := 8) (v := ?_) rfl (by kernel_rfl) (by kernel_rfl) (by kernel_rfl) (fun _ _ _ h => h) (Or.inl ⟨by kernel_rfl, ?hy8⟩) (by assumption) ?_
     case hy8 => (intro w hSw; (try dsimp only at hSw); have q2 := (kp_of_below hSw.2 []).var hv1 (by simp); have t2 := (Lib.cell_of_heap q2 2).trans (hx2 : _ = some (Value.slice (some ⟨bs, off, none⟩) n cc)); have k1 : (1 : Int) < (n : Int) := kn.1; have k2 : (2 : Int) < (n : Int) := kn.2; have t3 := (hSw.2.cell lbs).trans e1; have t4 := (hSw.2.cell lbs).trans e2; go_simp; (try rw [if_pos k1]); (try rw [if_pos k2]); try with_reducible rfl)
     try simp only [Act.put, List.getElem_toArray, List.getElem_cons_zero, List.getElem_cons_succ, List.setIfInBounds_toArray, List.set_cons_zero, List.set_cons_succ]
     refine wpAnyH_take (i := 9) (v := ?_) rfl (by kernel_rfl) (by kernel_rfl) (by kernel_rfl) (fun _ _ _ h => h) (Or.inl ⟨by kernel_rfl, ?hy9⟩) (by assumption) ?_
     case hy9 => (intro w hSw; (try dsimp only at hSw); have q2 := (kp_of_below hSw.2 []).var hv1 (by simp); have t2 := (Lib.cell_of_heap q2 2).trans (hx2 : _ = some (Value.slice (some ⟨bs, off, none⟩) n cc)); have k1 : (1 : Int) < (n : Int) := kn.1; have k2 : (2 : Int) < (n : Int) := kn.2; have t3 := (hSw.2.cell lbs).trans e1; have t4 := (hSw.2.cell lbs).trans e2; go_simp; (try rw [if_pos k1]); (try rw [if_pos k2]); try with_reducible rfl)
     try simp only [Act.put, List.getElem_toArray, List.getElem_cons_zero, List.getElem_cons_succ, List.setIfInBounds_toArray, List.set_cons_zero, List.set_cons_succ]
     refine wpAnyH_take (i := 10) (v := ?_) rfl (by kernel_rfl) (by kernel_rfl) (by kernel_rfl) (fun _ _ _ h => h) (Or.inl ⟨by kernel_rfl, ?hy10⟩) (by assumption) ?_
     case hy10 => (intro w hSw; (try dsimp only at hSw); have q2 := (kp_of_below hSw.2 []).var hv1 (by simp); have t2 := (Lib.cell_of_heap q2 2).trans (hx2 : _ = some (Value.slice (some ⟨bs, off, none⟩) n cc)); have k1 : (1 : Int) < (n : Int) := kn.1; have k2 : (2 : Int) < (n : Int) := kn.2; have t3 := (hSw.2.cell lbs).trans e1; have t4 := (hSw.2.cell lbs).trans e2; go_simp; (try rw [if_pos k1]); (try rw [if_pos k2]); try with_reducible rfl)
     try simp only [Act.put, List.getElem_toArray, List.getElem_cons_zero, List.getElem_cons_succ, List.setIfInBounds_toArray, List.set_cons_zero, List.set_cons_succ]
     refine wpAnyH_ready (rs := [5]) (by kernel_rfl) (by simp) ?_
     refine AllReadyH.cons rfl (fun K hK => ?_) AllReadyH.nil
     go_simp
     go_wp2_with fail
     refine (Face_any _ _).mono ?_
     rintro e u5 ⟨rfl, hb5⟩
     have hS5 := (⟨Below.on hHeld.1 hb5, Below.on hHeld.2 hb5⟩ : Below w.heap.size w u5 ∧ Below u1.heap.size u1 u5)
     refine hK.out _ _ hS5 (fun _ => ?_)
     clear hK K hHeld hb5
     have hHeld := hS5
     clear hS5
     try simp only [Act.put, List.getElem_toArray, List.getElem_cons_zero, List.getElem_cons_succ, List.setIfInBounds_toArray, List.set_cons_zero, List.set_cons_succ]
     refine wpAnyH_take (i := 11) (v := ?_) rfl (by kernel_rfl) (by kernel_rfl) (by kernel_rfl) (fun _ _ _ h => h) (Or.inl ⟨by kernel_rfl, ?hy11⟩) (by assumption) ?_
     case hy11 => (intro w hSw; (try dsimp only at hSw); have q2 := (kp_of_below hSw.2 []).var hv1 (by simp); have t2 := (Lib.cell_of_heap q2 2).trans (hx2 : _ = some (Value.slice (some ⟨bs, off, none⟩) n cc)); have k1 : (1 : Int) < (n : Int) := kn.1; have k2 : (2 : Int) < (n : Int) := kn.2; have t3 := (hSw.2.cell lbs).trans e1; have t4 := (hSw.2.cell lbs).trans e2; go_simp; (try rw [if_pos k1]); (try rw [if_pos k2]); try with_reducible rfl)
     try simp only [Act.put, List.getElem_toArray, List.getElem_cons_zero, List.getElem_cons_succ, List.setIfInBounds_toArray, List.set_cons_zero, List.set_cons_succ]
     refine wpAnyH_take (i := 12) (v := ?_) rfl (by kernel_rfl) (by kernel_rfl) (by kernel_rfl) (fun _ _ _ h => h) (Or.inl ⟨by kernel_rfl, ?hy12⟩) (by assumption) ?_
     case hy12 => (intro w hSw; (try dsimp only at hSw); have q2 := (kp_of_below hSw.2 []).var hv1 (by simp); have t2 := (Lib.cell_of_heap q2 2).trans (hx2 : _ = some (Value.slice (some ⟨bs, off, none⟩) n cc)); have k1 : (1 : Int) < (n : Int) := kn.1; have k2 : (2 : Int) < (n : Int) := kn.2; have t3 := (hSw.2.cell lbs).trans e1; have t4 := (hSw.2.cell lbs).trans e2; go_simp; (try rw [if_pos k1]); (try rw [if_pos k2]); try with_reducible rfl)
     try simp only [Act.put, List.getElem_toArray, List.getElem_cons_zero, List.getElem_cons_succ, List.setIfInBounds_toArray, List.set_cons_zero, List.set_cons_succ]
     refine wpAnyH_done (by kernel_rfl) ?_ _
     exact ⟨rfl, hHeld.1, (kp_of_below hHeld.2 []).var hv1 (by simp)⟩
    case hq =>
     intro u ⟨hBu, hvu⟩
     have HBu := hid hBu
     have Hvu := hid hvu
     have HFV := hid (And.intro hF0 hV0)
     clear hF0 hV0 hn3 hlen hc1 hc2 hbs hxe
     have lqu : c.q < u.heap.size := Nat.lt_of_lt_of_le lq hBu.size
     clear hBu hvu hv1 d12 HB1 lbs e1 e2 kn hx2
     generalize ((faceOf y1.s : Nat) : Int) = F at *
     generalize y2.n = V at *
     by_cases hz : F = 0
     ·have ez : (F == 0) = true := by simpa using hz
      go_wp2_with fail
      go_ret
      rw [AddR, if_neg (fun h => Bool.noConfusion (hbB.symm.trans h.2)), if_pos (HFV.out.1.trans hz)]
      exact ⟨rfl, Nx.refl (tcl_ft w0 c i k) HH.out HBu.out⟩
     ·have ez : (F == 0) = false := by simpa using hz
      have HW : Hid (∀ e w', AddT es w0 c i k X w (mdO l) F V e w' → AddR es w0 c i k X w 2 q o l e w') := fun e w' h => by
       rw [AddR, if_neg (fun h => Bool.noConfusion (hbB.symm.trans h.2)), if_neg (fun h => hz (HFV.out.1.symm.trans h)), HFV.out.1, HFV.out.2]
       exact h
      go_wp2_with fail
      have cqU : u.drew.cell? ⟨c.q, 1, none⟩ = some (ptz c.ob) := (HBu.out.cell lq).trans c1
      have hvU := Hvu.out
      have HTM := hid ((tcl_ft w0 c i k).on HH.out HBu.out)
      have HRM := hid (HR.out.kpz (kp_of_below HBu.out.drew []) (by simp))
      have HX : Hid (∀ b ∈ X, b < w.heap.size) := fun b hb => ((tcl_ft w0 c i k).lt HH.out b hb).2
      apply wp_same (S := fun z => Nx (Tcl w0 c i { k with ids := addS k.ids (mdO l) F V }) X w z)
      case h =>
       have hHeld := (⟨cqU, hvU⟩ : u.drew.cell? ⟨c.q, 1, none⟩ = some (ptz c.ob) ∧ u.drew.heap[w.heap.size]? = some (.cells #[.int .i64 o, .int .i64 q, .slice x n cc] 42 (0, 0)))
       refine wp_region_held_drew (S := fun x0 => x0.cell? ⟨c.q, 1, none⟩ = some (ptz c.ob) ∧ x0.heap[w.heap.size]? = some (.cells #[.int .i64 o, .int .i64 q, .slice x n cc] 42 (0, 0))) (by kernel_rfl) hHeld (fun _ => ?_)
       refine wpAnyH_take (i := 0) (v := ?_) rfl (by kernel_rfl) (by kernel_rfl) (by kernel_rfl) (fun _ _ _ h => h) (Or.inl ⟨by kernel_rfl, ?hy0⟩) (by assumption) ?_
       case hy0 => (intro w hSw; (try dsimp only at hSw); obtain ⟨tq, q2⟩ := hSw; have t0 := (Lib.cell_of_heap q2 0).trans (rfl : _ = some (Value.int .i64 o)); have t1 := (Lib.cell_of_heap q2 1).trans (rfl : _ = some (Value.int .i64 q)); have t2 := (Lib.cell_of_heap q2 2).trans (rfl : _ = some (Value.slice x n cc)); go_simp; try with_reducible rfl)
       try simp only [Act.put, List.getElem_toArray, List.getElem_cons_zero, List.setIfInBounds_toArray, List.set_cons_zero, List.set_cons_succ]
       refine wpAnyH_take (i := 1) (v := ?_) rfl (by kernel_rfl) (by kernel_rfl) (by kernel_rfl) (fun _ _ _ h => h) (Or.inl ⟨by kernel_rfl, ?hy1⟩) (by assumption) ?_
       case hy1 => (intro w hSw; (try dsimp only at hSw); obtain ⟨tq, q2⟩ := hSw; have t0 := (Lib.cell_of_heap q2 0).trans (rfl : _ = some (Value.int .i64 o)); have t1 := (Lib.cell_of_heap q2 1).trans (rfl : _ = some (Value.int .i64 q)); have t2 := (Lib.cell_of_heap q2 2).trans (rfl : _ = some (Value.slice x n cc)); go_simp; try with_reducible rfl)
       try simp only [Act.put, List.getElem_toArray, List.getElem_cons_zero, List.getElem_cons_succ, List.setIfInBounds_toArray, List.set_cons_zero, List.set_cons_succ]
       refine wpAnyH_take (i := 2) (v := ?_) rfl (by kernel_rfl) (by kernel_rfl) (by kernel_rfl) (fun _ _ _ h => h) (Or.inl ⟨by kernel_rfl, ?hy2⟩) (by assumption) ?_
       case hy2 => (intro w hSw; (try dsimp only at hSw); obtain ⟨tq, q2⟩ := hSw; have t0 := (Lib.cell_of_heap q2 0).trans (rfl : _ = some (Value.int .i64 o)); have t1 := (Lib.cell_of_heap q2 1).trans (rfl : _ = some (Value.int .i64 q)); have t2 := (Lib.cell_of_heap q2 2).trans (rfl : _ = some (Value.slice x n cc)); go_simp; try with_reducible rfl)
       try simp only [Act.put, List.getElem_toArray, List.getElem_cons_zero, List.getElem_cons_succ, List.setIfInBounds_toArray, List.set_cons_zero, List.set_cons_succ]
       refine wpAnyH_take (i := 3) (v := ?_) rfl (by kernel_rfl) (by kernel_rfl) (by kernel_rfl) (fun _ _ _ h => h) (Or.inl ⟨by kernel_rfl, ?hy3⟩) (by assumption) ?_
       case hy3 => (intro w hSw; (try dsimp only at hSw); obtain ⟨tq, q2⟩ := hSw; have t0 := (Lib.cell_of_heap q2 0).trans (rfl : _ = some (Value.int .i64 o)); have t1 := (Lib.cell_of_heap q2 1).trans (rfl : _ = some (Value.int .i64 q)); have t2 := (Lib.cell_of_heap q2 2).trans (rfl : _ = some (Value.slice x n cc)); go_simp; try with_reducible rfl)
       try simp only [Act.put, List.getElem_toArray, List.getElem_cons_zero, List.getElem_cons_succ, List.setIfInBounds_toArray, List.set_cons_zero, List.set_cons_succ]
       refine wpAnyH_take (i := 4) (v := ?_) rfl (by kernel_rfl) (by kernel_rfl) (by kernel_rfl) (fun _ _ _ h => h) (Or.inl ⟨by kernel_rfl, ?hy4⟩) (by assumption) ?_
       case hy4 => (intro w hSw; (try dsimp only at hSw); obtain ⟨tq, q2⟩ := hSw; have t0 := (Lib.cell_of_heap q2 0).trans (rfl : _ = some (Value.int .i64 o)); have t1 := (Lib.cell_of_heap q2 1).trans (rfl : _ = some (Value.int .i64 q)); have t2 := (Lib.cell_of_heap q2 2).trans (rfl : _ = some (Value.slice x n cc)); go_simp; try with_reducible rfl)
       try simp only [Act.put, List.getElem_toArray, List.getElem_cons_zero, List.getElem_cons_succ, List.setIfInBounds_toArray, List.set_cons_zero, List.set_cons_succ]
       refine wpAnyH_take (i := 6) (v := ?_) rfl (by kernel_rfl) (by kernel_rfl) (by kernel_rfl) (fun _ _ _ h => h) (Or.inl ⟨by kernel_rfl, ?hy6⟩) (by assumption) ?_
       case hy6 => (intro w hSw; (try dsimp only at hSw); obtain ⟨tq, q2⟩ := hSw; have t0 := (Lib.cell_of_heap q2 0).trans (rfl : _ = some (Value.int .i64 o)); have t1 := (Lib.cell_of_heap q2 1).trans (rfl : _ = some (Value.int .i64 q)); have t2 := (Lib.cell_of_heap q2 2).trans (rfl : _ = some (Value.slice x n cc)); go_simp; try with_reducible rfl)
       try simp only [Act.put, List.getElem_toArray, List.getElem_cons_zero, List.getElem_cons_succ, List.setIfInBounds_toArray, List.set_cons_zero, List.set_cons_succ]
       refine wpAnyH_take (i := 7) (v := ?_) rfl (by kernel_rfl) (by kernel_rfl) (by kernel_rfl) (fun _ _ _ h => h) (Or.inl ⟨by kernel_rfl, ?hy7⟩) (by assumption) ?_
       case hy7 => (intro w hSw; (try dsimp only at hSw); obtain ⟨tq, q2⟩ := hSw; have t0 := (Lib.cell_of_heap q2 0).trans (rfl : _ = some (Value.int .i64 o)); have t1 := (Lib.cell_of_heap q2 1).trans (rfl : _ = some (Value.int .i64 q)); have t2 := (Lib.cell_of_heap q2 2).trans (rfl : _ = some (Value.slice x n cc)); go_simp; try with_reducible rfl)
       try simp only [Act.put, List.getElem_toArray, List.getElem_cons_zero, List.getElem_cons_succ, List.setIfInBounds_toArray, List.set_cons_zero, List.set_cons_succ]
       refine wpAnyH_ready (rs := [5]) (by kernel_rfl) (by simp) ?_
       refine AllReadyH.cons rfl (fun K hK => ?_) AllReadyH.nil
       go_simp
       go_wp2_with fail
       refine (made_any o q x n cc l HRM.out).mono ?_
       rintro e u5 ⟨rfl, hb5⟩
       have hS5 := (⟨(hb5.cell (Nat.lt_of_lt_of_le lqu (Nat.le_refl _))).trans hHeld.1, (kp_of_below hb5 []).var hHeld.2 (by simp)⟩ : u5.cell? ⟨c.q, 1, none⟩ = some (ptz c.ob) ∧ u5.heap[w.heap.size]? = some (.cells #[.int .i64 o, .int .i64 q, .slice x n cc] 42 (0, 0)))
       have HB5 := hid (Below.on HBu.out.drew hb5 : Below w.heap.size w u5)
       refine hK.out _ _ hS5 (fun _ => ?_)
       clear hK K hHeld hb5
       have hHeld := hS5
       clear hS5
       try simp only [Act.put, List.getElem_toArray, List.getElem_cons_zero, List.getElem_cons_succ, List.setIfInBounds_toArray, List.set_cons_zero, List.set_cons_succ]
       refine wpAnyH_ready (rs := [8]) (by kernel_rfl) (by simp) ?_
       refine AllReadyH.cons rfl (fun K hK => ?_) AllReadyH.nil
       go_simp
       go_wp2_with fail
       refine (HD.out F V u5 HB5.out).mono ?_
       rintro e u8 ⟨rfl, hN8⟩
       have HN8 := hid hN8
       have hS8 : u8.cell? ⟨c.q, 1, none⟩ = some (ptz c.ob) ∧ u8.heap[w.heap.size]? = some (.cells #[.int .i64 o, .int .i64 q, .slice x n cc] 42 (0, 0)) := (by obtain ⟨X8, q1, q2, _⟩ := hN8; obtain ⟨v8, q3, _⟩ := clt_var q1; exact ⟨(by rw [Lib.cell_of_heap q3]; rfl), q2.var hHeld.2 (fun hm => absurd (HX.out _ hm) (Nat.lt_irrefl _))⟩)
       refine hK.out _ _ hS8 (fun _ => ?_)
       clear hK K hN8
       try simp only [Act.put, List.getElem_toArray, List.getElem_cons_zero, List.getElem_cons_succ, List.setIfInBounds_toArray, List.set_cons_zero, List.set_cons_succ]
       refine wpAnyH_take (i := 9) (v := ?_) rfl (by kernel_rfl) (by kernel_rfl) (by kernel_rfl) (fun _ _ _ h => h) (Or.inl ⟨by kernel_rfl, ?hy9⟩) (by assumption) ?_
       case hy9 => (intro w hSw; (try dsimp only at hSw); obtain ⟨tq, q2⟩ := hSw; have t0 := (Lib.cell_of_heap q2 0).trans (rfl : _ = some (Value.int .i64 o)); have t1 := (Lib.cell_of_heap q2 1).trans (rfl : _ = some (Value.int .i64 q)); have t2 := (Lib.cell_of_heap q2 2).trans (rfl : _ = some (Value.slice x n cc)); go_simp; try with_reducible rfl)
       try simp only [Act.put, List.getElem_toArray, List.getElem_cons_zero, List.getElem_cons_succ, List.setIfInBounds_toArray, List.set_cons_zero, List.set_cons_succ]
       refine wpAnyH_done (by kernel_rfl) ?_ _
       exact ⟨rfl, Nx.before HN8.out HB5.out⟩
      case hq =>
       intro z hN
       have HN := hid hN
       have HAz : Hid (All z es ∧ Errs z gerrs es) := hid (by
        obtain ⟨_, q1, _, _⟩ := hN
        exact ⟨HA.out.below (tcl_bel q1), HE.out.below (tcl_bel q1)⟩)
       clear hN
       by_cases he : addE_IdsA k.ids (mdO l) F V = 0
       ·have h9 : erv es (addE_IdsA k.ids (mdO l) F V) = .nilIface := by rw [he]; rfl
        rw [h9]
        go_wp2_with fail
        go_ret
        refine HW.out _ _ ?_
        rw [AddT, if_pos he]
        exact ⟨rfl, HN.out⟩
       ·obtain ⟨h1, h16⟩ : 1 ≤ addE_IdsA k.ids (mdO l) F V ∧ addE_IdsA k.ids (mdO l) F V ≤ 16 := ⟨by omega, addE_le_DpP _ _ _ _⟩
        obtain ⟨t, y, h9⟩ := erv_if es h1
        have HBL := hid (blame_er HAz.out.1 (.inl rfl : Er_WireB es (erv es (addE_IdsA k.ids (mdO l) F V)) (addE_IdsA k.ids (mdO l) F V)) h1 h16 1)
        rw [h9] at HBL ⊢
        go_wp2_with fail
        refine HBL.out.mono ?_
        rintro e z1 ⟨v1, rfl, hF1, hb1⟩
        have HF1 := hid hF1
        have HB1 := hid hb1
        clear hF1 hb1
        go_wp2_with fail
        go_ret
        refine HW.out _ _ ?_
        rw [AddT, if_neg he]
        refine ⟨v1, rfl, HF1.out, ?_⟩
        have hq := HN.out
        rw [addS, if_neg he] at hq
        obtain ⟨X2, q1, q2, q3⟩ := hq
        exact Nx.trans ⟨q1, q2, q3⟩ (Nx.refl (tcl_ft w0 c i k) q1 HB1.out)
  ·have e2 : (face == 2) = false := by simpa using h2
   have HF : Hid (adF face q l = rqM face q ∧ adV k face o l = (k.ids o).2) := by
    rw [Hid, adF, adV, if_neg h2, if_neg h2]
    exact ⟨rfl, rfl⟩
   by_cases hz : rqM face q = 0
   ·have ez : (rqM face q == 0) = true := by simpa using hz
    go_wp2_with fail
    go_ret
    rw [AddR, if_neg (fun h => h2 h.1), if_pos (HF.out.1.trans hz)]
    exact ⟨rfl, Nx.refl (tcl_ft w0 c i k) HH.out HBu.out⟩
   ·have ez : (rqM face q == 0) = false := by simpa using hz
    have HZ := hid (fun h => hz (HF.out.1.symm.trans h) : adF face q l ≠ 0)
    have HW : Hid (∀ e w', AddT es w0 c i k X w (mdO l) (rqM face q) (k.ids o).2 e w' → AddR es w0 c i k X w face q o l e w') := fun e w' h => by
     rw [AddR, if_neg (fun h => h2 h.1), if_neg HZ.out, HF.out.1, HF.out.2]
     exact h
    generalize rqM face q = F at *
    generalize (k.ids o).2 = V at *
    go_wp2_with fail
    have cqU : u.drew.cell? ⟨c.q, 1, none⟩ = some (ptz c.ob) := (HBu.out.cell lq).trans c1
    have hvU := Hvu.out
    clear d2
    have HTM := hid ((tcl_ft w0 c i k).on HH.out HBu.out)
    have HRM := hid (HR.out.kpz (kp_of_below HBu.out.drew []) (by simp))
    have HX : Hid (∀ b ∈ X, b < w.heap.size) := fun b hb => ((tcl_ft w0 c i k).lt HH.out b hb).2
    apply wp_same (S := fun z => Nx (Tcl w0 c i { k with ids := addS k.ids (mdO l) F V }) X w z)
    case h =>
     have hHeld := (⟨cqU, hvU⟩ : u.drew.cell? ⟨c.q, 1, none⟩ = some (ptz c.ob) ∧ u.drew.heap[w.heap.size]? = some (.cells #[.int .i64 o, .int .i64 q, .slice x n cc] 42 (0, 0)))
     refine wp_region_held_drew (S := fun x0 => x0.cell? ⟨c.q, 1, none⟩ = some (ptz c.ob) ∧ x0.heap[w.heap.size]? = some (.cells #[.int .i64 o, .int .i64 q, .slice x n cc] 42 (0, 0))) (by kernel_rfl) hHeld (fun _ => ?_)
     refine wpAnyH_take (i := 0) (v := ?_) rfl (by kernel_rfl) (by kernel_rfl) (by kernel_rfl) (fun _ _ _ h => h) (Or.inl ⟨by kernel_rfl, ?hy0⟩) (by assumption) ?_
     case hy0 => (intro w hSw; (try dsimp only at hSw); obtain ⟨tq, q2⟩ := hSw; have t0 := (Lib.cell_of_heap q2 0).trans (rfl : _ = some (Value.int .i64 o)); have t1 := (Lib.cell_of_heap q2 1).trans (rfl : _ = some (Value.int .i64 q)); have t2 := (Lib.cell_of_heap q2 2).trans (rfl : _ = some (Value.slice x n cc)); go_simp; try with_reducible rfl)
     try simp only [Act.put, List.getElem_toArray, List.getElem_cons_zero, List.setIfInBounds_toArray, List.set_cons_zero, List.set_cons_succ]
     refine wpAnyH_take (i := 1) (v := ?_) rfl (by kernel_rfl) (by kernel_rfl) (by kernel_rfl) (fun _ _ _ h => h) (Or.inl ⟨by kernel_rfl, ?hy1⟩) (by assumption) ?_
     case hy1 => (intro w hSw; (try dsimp only at hSw); obtain ⟨tq, q2⟩ := hSw; have t0 := (Lib.cell_of_heap q2 0).trans (rfl : _ = some (Value.int .i64 o)); have t1 := (Lib.cell_of_heap q2 1).trans (rfl : _ = some (Value.int .i64 q)); have t2 := (Lib.cell_of_heap q2 2).trans (rfl : _ = some (Value.slice x n cc)); go_simp; try with_reducible rfl)
     try simp only [Act.put, List.getElem_toArray, List.getElem_cons_zero, List.getElem_cons_succ, List.setIfInBounds_toArray, List.set_cons_zero, List.set_cons_succ]
     refine wpAnyH_take (i := 2) (v := ?_) rfl (by kernel_rfl) (by kernel_rfl) (by kernel_rfl) (fun _ _ _ h => h) (Or.inl ⟨by kernel_rfl, ?hy2⟩) (by assumption) ?_
     case hy2 => (intro w hSw; (try dsimp only at hSw); obtain ⟨tq, q2⟩ := hSw; have t0 := (Lib.cell_of_heap q2 0).trans (rfl : _ = some (Value.int .i64 o)); have t1 := (Lib.cell_of_heap q2 1).trans (rfl : _ = some (Value.int .i64 q)); have t2 := (Lib.cell_of_heap q2 2).trans (rfl : _ = some (Value.slice x n cc)); go_simp; try with_reducible rfl)
     try simp only [Act.put, List.getElem_toArray, List.getElem_cons_zero, List.getElem_cons_succ, List.setIfInBounds_toArray, List.set_cons_zero, List.set_cons_succ]
     refine wpAnyH_take (i := 3) (v := ?_) rfl (by kernel_rfl) (by kernel_rfl) (by kernel_rfl) (fun _ _ _ h => h) (Or.inl ⟨by kernel_rfl, ?hy3⟩) (by assumption) ?_
     case hy3 => (intro w hSw; (try dsimp only at hSw); obtain ⟨tq, q2⟩ := hSw; have t0 := (Lib.cell_of_heap q2 0).trans (rfl : _ = some (Value.int .i64 o)); have t1 := (Lib.cell_of_heap q2 1).trans (rfl : _ = some (Value.int .i64 q)); have t2 := (Lib.cell_of_heap q2 2).trans (rfl : _ = some (Value.slice x n cc)); go_simp; try with_reducible rfl)
     try simp only [Act.put, List.getElem_toArray, List.getElem_cons_zero, List.getElem_cons_succ, List.setIfInBounds_toArray, List.set_cons_zero, List.set_cons_succ]
     refine wpAnyH_take (i := 4) (v := ?_) rfl (by kernel_rfl) (by kernel_rfl) (by kernel_rfl) (fun _ _ _ h => h) (Or.inl ⟨by kernel_rfl, ?hy4⟩) (by assumption) ?_
     case hy4 => (intro w hSw; (try dsimp only at hSw); obtain ⟨tq, q2⟩ := hSw; have t0 := (Lib.cell_of_heap q2 0).trans (rfl : _ = some (Value.int .i64 o)); have t1 := (Lib.cell_of_heap q2 1).trans (rfl : _ = some (Value.int .i64 q)); have t2 := (Lib.cell_of_heap q2 2).trans (rfl : _ = some (Value.slice x n cc)); go_simp; try with_reducible rfl)
     try simp only [Act.put, List.getElem_toArray, List.getElem_cons_zero, List.getElem_cons_succ, List.setIfInBounds_toArray, List.set_cons_zero, List.set_cons_succ]
     refine wpAnyH_take (i := 6) (v := ?_) rfl (by kernel_rfl) (by kernel_rfl) (by kernel_rfl) (fun _ _ _ h => h) (Or.inl ⟨by kernel_rfl, ?hy6⟩) (by assumption) ?_
     case hy6 => (intro w hSw; (try dsimp only at hSw); obtain ⟨tq, q2⟩ := hSw; have t0 := (Lib.cell_of_heap q2 0).trans (rfl : _ = some (Value.int .i64 o)); have t1 := (Lib.cell_of_heap q2 1).trans (rfl : _ = some (Value.int .i64 q)); have t2 := (Lib.cell_of_heap q2 2).trans (rfl : _ = some (Value.slice x n cc)); go_simp; try with_reducible rfl)
     try simp only [Act.put, List.getElem_toArray, List.getElem_cons_zero, List.getElem_cons_succ, List.setIfInBounds_toArray, List.set_cons_zero, List.set_cons_succ]
     refine wpAnyH_take (i := 7) (v := ?_) rfl (by kernel_rfl) (by kernel_rfl) (by kernel_rfl) (fun _ _ _ h => h) (Or.inl ⟨by kernel_rfl, ?hy7⟩) (by assumption) ?_
     case hy7 => (intro w hSw; (try dsimp only at hSw); obtain ⟨tq, q2⟩ := hSw; have t0 := (Lib.cell_of_heap q2 0).trans (rfl : _ = some (Value.int .i64 o)); have t1 := (Lib.cell_of_heap q2 1).trans (rfl : _ = some (Value.int .i64 q)); have t2 := (Lib.cell_of_heap q2 2).trans (rfl : _ = some (Value.slice x n cc)); go_simp; try with_reducible rfl)
     try simp only [Act.put, List.getElem_toArray, List.getElem_cons_zero, List.getElem_cons_succ, List.setIfInBounds_toArray, List.set_cons_zero, List.set_cons_succ]
     refine wpAnyH_ready (rs := [5]) (by kernel_rfl) (by simp) ?_
     refine AllReadyH.cons rfl (fun K hK => ?_) AllReadyH.nil
     go_simp
     go_wp2_with fail
     refine (made_any o q x n cc l HRM.out).mono ?_
     rintro e u5 ⟨rfl, hb5⟩
     have hS5 := (⟨(hb5.cell (Nat.lt_of_lt_of_le lqu (Nat.le_refl _))).trans hHeld.1, (kp_of_below hb5 []).var hHeld.2 (by simp)⟩ : u5.cell? ⟨c.q, 1, none⟩ = some (ptz c.ob) ∧ u5.heap[w.heap.size]? = some (.cells #[.int .i64 o, .int .i64 q, .slice x n cc] 42 (0, 0)))
     have HB5 := hid (Below.on HBu.out.drew hb5 : Below w.heap.size w u5)
     refine hK.out _ _ hS5 (fun _ => ?_)
     clear hK K hHeld hb5
     have hHeld := hS5
     clear hS5
     try simp only [Act.put, List.getElem_toArray, List.getElem_cons_zero, List.getElem_cons_succ, List.setIfInBounds_toArray, List.set_cons_zero, List.set_cons_succ]
     refine wpAnyH_ready (rs := [8]) (by kernel_rfl) (by simp) ?_
     refine AllReadyH.cons rfl (fun K hK => ?_) AllReadyH.nil
     go_simp
     go_wp2_with fail
     refine (HD.out F V u5 HB5.out).mono ?_
     rintro e u8 ⟨rfl, hN8⟩
     have HN8 := hid hN8
     have hS8 : u8.cell? ⟨c.q, 1, none⟩ = some (ptz c.ob) ∧ u8.heap[w.heap.size]? = some (.cells #[.int .i64 o, .int .i64 q, .slice x n cc] 42 (0, 0)) := (by obtain ⟨X8, q1, q2, _⟩ := hN8; obtain ⟨v8, q3, _⟩ := clt_var q1; exact ⟨(by rw [Lib.cell_of_heap q3]; rfl), q2.var hHeld.2 (fun hm => absurd (HX.out _ hm) (Nat.lt_irrefl _))⟩)
     refine hK.out _ _ hS8 (fun _ => ?_)
     clear hK K hN8
     try simp only [Act.put, List.getElem_toArray, List.getElem_cons_zero, List.getElem_cons_succ, List.setIfInBounds_toArray, List.set_cons_zero, List.set_cons_succ]
     refine wpAnyH_take (i := 9) (v := ?_) rfl (by kernel_rfl) (by kernel_rfl) (by kernel_rfl) (fun _ _ _ h => h) (Or.inl ⟨by kernel_rfl, ?hy9⟩) (by assumption) ?_
     case hy9 => (intro w hSw; (try dsimp only at hSw); obtain ⟨tq, q2⟩ := hSw; have t0 := (Lib.cell_of_heap q2 0).trans (rfl : _ = some (Value.int .i64 o)); have t1 := (Lib.cell_of_heap q2 1).trans (rfl : _ = some (Value.int .i64 q)); have t2 := (Lib.cell_of_heap q2 2).trans (rfl : _ = some (Value.slice x n cc)); go_simp; try with_reducible rfl)
     try simp only [Act.put, List.getElem_toArray, List.getElem_cons_zero, List.getElem_cons_succ, List.setIfInBounds_toArray, List.set_cons_zero, List.set_cons_succ]
     refine wpAnyH_done (by kernel_rfl) ?_ _
     exact ⟨rfl, Nx.before HN8.out HB5.out⟩
    case hq =>
     intro z hN
     have HN := hid hN
     have HAz : Hid (All z es ∧ Errs z gerrs es) := hid (by
      obtain ⟨_, q1, _, _⟩ := hN
      exact ⟨HA.out.below (tcl_bel q1), HE.out.below (tcl_bel q1)⟩)
     clear hN
     by_cases he : addE_IdsA k.ids (mdO l) F V = 0
     ·have h9 : erv es (addE_IdsA k.ids (mdO l) F V) = .nilIface := by rw [he]; rfl
      rw [h9]
      go_wp2_with fail
      go_ret
      refine HW.out _ _ ?_
      rw [AddT, if_pos he]
      exact ⟨rfl, HN.out⟩
     ·obtain ⟨h1, h16⟩ : 1 ≤ addE_IdsA k.ids (mdO l) F V ∧ addE_IdsA k.ids (mdO l) F V ≤ 16 := ⟨by omega, addE_le_DpP _ _ _ _⟩
      obtain ⟨t, y, h9⟩ := erv_if es h1
      have HBL := hid (blame_er HAz.out.1 (.inl rfl : Er_WireB es (erv es (addE_IdsA k.ids (mdO l) F V)) (addE_IdsA k.ids (mdO l) F V)) h1 h16 1)
      rw [h9] at HBL ⊢
      go_wp2_with fail
      refine HBL.out.mono ?_
      rintro e z1 ⟨v1, rfl, hF1, hb1⟩
      have HF1 := hid hF1
      have HB1 := hid hb1
      clear hF1 hb1
      go_wp2_with fail
      go_ret
      refine HW.out _ _ ?_
      rw [AddT, if_neg he]
      refine ⟨v1, rfl, HF1.out, ?_⟩
      have hq := HN.out
      rw [addS, if_neg he] at hq
      obtain ⟨X2, q1, q2, q3⟩ := hq
      exact Nx.trans ⟨q1, q2, q3⟩ (Nx.refl (tcl_ft w0 c i k) q1 HB1.out)
end
end
end Go.Proofs.YtpbgbpcdohdecaaGreatDoor
