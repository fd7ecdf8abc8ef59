/- Lemmas that the proof leans on. -/
import Derived.Test.YtpbgbpcdohdecaaGreatDoorB35
namespace Go.Proofs.YtpbgbpcdohdecaaGreatDoor
open Go Go.RowKit
set_option maxRecDepth 100000
set_option maxHeartbeats 4000000
section
section
variable {es : List Addr} {w0 w w' : World} {a : Da} {c : Ca} {i : Int} {k k1 k' : Kl} {mm : Nat} {d : Dsk} {X Z : List Nat}
theorem hnd_none (hA : All w0 es) (hE : Errs w0 gerrs es) (h : Tcl w0 c i k w X) (dp : Value) (o q : Int) (ho : -9223372036854775808 ≤ o ∧ o ≤ 9223372036854775807) (t : ByteArray) (hF : (k.ids o).1 = 0) :
  Calls Tryz.prog 28 #[dp, ptz c.q, .agg #[.int .i64 o, .int .i64 q, .string t]] w fun e w' => ∃ v, e = .returned v ∧ FtV w' es v 1 5 ∧ Below w.heap.size w w' := by
 obtain ⟨v, hv, _⟩ := clt_var h
 have c1 : w.cell? ⟨c.q, 1, none⟩ = some (ptz c.ob) := by rw [Lib.cell_of_heap hv]; rfl
 have lq : c.q < w.heap.size := (Array.getElem?_eq_some_iff.1 hv).1
 have HB := hid (bel_mkK w (.cells #[.int .i64 o, .int .i64 q, .string t] 31))
 have hvb := heap_alloc_new w (.cells #[.int .i64 o, .int .i64 q, .string t] 31)
 have HV : Hid (∀ u, Below w.heap.size w u → Calls Tryz.prog 33 #[ptz c.ob, .int .i64 o] u fun e w' => e = .returned (.int .i64 (k.ids o).1) ∧ w' = u) := fun u hu => by
  obtain ⟨Y, hY, _⟩ := (lcl_ids k.ids).get ((tcl_ft w0 c i k).on h hu)
  exact hY.face o ho
 have HA := hid hA
 have HE := hid hE
 have HH := hid (tcl_bel h)
 rw [hF] at HV
 clear h hA hE hv hF
 go_enter Tryz.func28, Tryz.ntmps28
 go_wp2_with fail
 apply wp_same (S := fun u => Below w.heap.size w u ∧ u.heap[w.heap.size]? = some (.cells #[.int .i64 o, .int .i64 q, .string t] 31 (0, 0)))
 case h =>
  have hHeld := (⟨HB.out.drew, hvb⟩ : Below w.heap.size w (w.alloc (.cells #[.int .i64 o, .int .i64 q, .string t] 31)).drew ∧ (w.alloc (.cells #[.int .i64 o, .int .i64 q, .string t] 31)).drew.heap[w.heap.size]? = some (.cells #[.int .i64 o, .int .i64 q, .string t] 31 (0, 0)))
  refine wp_region_held_drew (S := fun x0 => Below w.heap.size w x0 ∧ x0.heap[w.heap.size]? = some (.cells #[.int .i64 o, .int .i64 q, .string t] 31 (0, 0))) (by kernel_rfl) hHeld (fun _ => ?_)
  refine wpAnyH_take (i := 0) (v := ?_) rfl (by kernel_rfl) (by kernel_rfl) (by kernel_rfl) (fun _ _ _ h => h) (Or.inl ⟨by kernel_rfl, ?hy0⟩) (by assumption) ?_
  case hy0 => (intro w hSw; (try dsimp only at hSw); obtain ⟨q1, q2⟩ := hSw; have t0 := (Lib.cell_of_heap q2 0).trans (rfl : _ = some (Value.int .i64 o)); have t2 := (q1.cell lq).trans c1; go_simp; try with_reducible rfl)
  try simp only [Act.put, List.getElem_toArray, List.getElem_cons_zero, List.setIfInBounds_toArray, List.set_cons_zero, List.set_cons_succ]
  refine wpAnyH_take (i := 1) (v := ?_) rfl (by kernel_rfl) (by kernel_rfl) (by kernel_rfl) (fun _ _ _ h => h) (Or.inl ⟨by kernel_rfl, ?hy1⟩) (by assumption) ?_
  case hy1 => (intro w hSw; (try dsimp only at hSw); obtain ⟨q1, q2⟩ := hSw; have t0 := (Lib.cell_of_heap q2 0).trans (rfl : _ = some (Value.int .i64 o)); have t2 := (q1.cell lq).trans c1; go_simp; try with_reducible rfl)
  try simp only [Act.put, List.getElem_toArray, List.getElem_cons_zero, List.getElem_cons_succ, List.setIfInBounds_toArray, List.set_cons_zero, List.set_cons_succ]
  refine wpAnyH_take (i := 2) (v := ?_) rfl (by kernel_rfl) (by kernel_rfl) (by kernel_rfl) (fun _ _ _ h => h) (Or.inl ⟨by kernel_rfl, ?hy2⟩) (by assumption) ?_
  case hy2 => (intro w hSw; (try dsimp only at hSw); obtain ⟨q1, q2⟩ := hSw; have t0 := (Lib.cell_of_heap q2 0).trans (rfl : _ = some (Value.int .i64 o)); have t2 := (q1.cell lq).trans c1; go_simp; try with_reducible rfl)
  try simp only [Act.put, List.getElem_toArray, List.getElem_cons_zero, List.getElem_cons_succ, List.setIfInBounds_toArray, List.set_cons_zero, List.set_cons_succ]
  refine wpAnyH_take (i := 3) (v := ?_) rfl (by kernel_rfl) (by kernel_rfl) (by kernel_rfl) (fun _ _ _ h => h) (Or.inl ⟨by kernel_rfl, ?hy3⟩) (by assumption) ?_
  case hy3 => (intro w hSw; (try dsimp only at hSw); obtain ⟨q1, q2⟩ := hSw; have t0 := (Lib.cell_of_heap q2 0).trans (rfl : _ = some (Value.int .i64 o)); have t2 := (q1.cell lq).trans c1; go_simp; try with_reducible rfl)
  try simp only [Act.put, List.getElem_toArray, List.getElem_cons_zero, List.getElem_cons_succ, List.setIfInBounds_toArray, List.set_cons_zero, List.set_cons_succ]
  refine wpAnyH_take (i := 4) (v := ?_) rfl (by kernel_rfl) (by kernel_rfl) (by kernel_rfl) (fun _ _ _ h => h) (Or.inl ⟨by kernel_rfl, ?hy4⟩) (by assumption) ?_
  case hy4 => (intro w hSw; (try dsimp only at hSw); obtain ⟨q1, q2⟩ := hSw; have t0 := (Lib.cell_of_heap q2 0).trans (rfl : _ = some (Value.int .i64 o)); have t2 := (q1.cell lq).trans c1; go_simp; try with_reducible rfl)
  try simp only [Act.put, List.getElem_toArray, List.getElem_cons_zero, List.getElem_cons_succ, List.setIfInBounds_toArray, List.set_cons_zero, List.set_cons_succ]
  refine wpAnyH_take (i := 5) (v := ?_) rfl (by kernel_rfl) (by kernel_rfl) (by kernel_rfl) (fun _ _ _ h => h) (Or.inl ⟨by kernel_rfl, ?hy5⟩) (by assumption) ?_
  case hy5 => (intro w hSw; (try dsimp only at hSw); obtain ⟨q1, q2⟩ := hSw; have t0 := (Lib.cell_of_heap q2 0).trans (rfl : _ = some (Value.int .i64 o)); have t2 := (q1.cell lq).trans c1; go_simp; try with_reducible rfl)
  try simp only [Act.put, List.getElem_toArray, List.getElem_cons_zero, List.getElem_cons_succ, List.setIfInBounds_toArray, List.set_cons_zero, List.set_cons_succ]
  refine wpAnyH_ready (rs := [6]) (by kernel_rfl) (by simp) ?_
  refine AllReadyH.cons rfl (fun K hK => ?_) AllReadyH.nil
  go_simp
  go_wp2_with fail
  refine (HV.out _ hHeld.1).mono ?_
  rintro e u10 ⟨rfl, rfl⟩
  refine hK.out _ _ hHeld (fun _ => ?_)
  clear hK K
  try simp only [Act.put, List.getElem_toArray, List.getElem_cons_zero, List.getElem_cons_succ, List.setIfInBounds_toArray, List.set_cons_zero, List.set_cons_succ]
  refine wpAnyH_take (i := 7) (v := ?_) rfl (by kernel_rfl) (by kernel_rfl) (by kernel_rfl) (fun _ _ _ h => h) (Or.inl ⟨by kernel_rfl, ?hy7⟩) (by assumption) ?_
  case hy7 => (intro w hSw; (try dsimp only at hSw); obtain ⟨q1, q2⟩ := hSw; have t0 := (Lib.cell_of_heap q2 0).trans (rfl : _ = some (Value.int .i64 o)); have t2 := (q1.cell lq).trans c1; go_simp; try with_reducible rfl)
  try simp only [Act.put, List.getElem_toArray, List.getElem_cons_zero, List.getElem_cons_succ, List.setIfInBounds_toArray, List.set_cons_zero, List.set_cons_succ]
  refine wpAnyH_done (by kernel_rfl) ?_ _
  exact ⟨rfl, hHeld⟩
 case hq =>
  intro u ⟨hBu, hvu⟩
  have HBu := hid hBu
  have Hvu := hid hvu
  have lw : w.heap.size < u.heap.size := (Array.getElem?_eq_some_iff.1 hvu).1
  have lqu : c.q < u.heap.size := Nat.lt_of_lt_of_le lq hBu.size
  have d0 : u.cell? ⟨w.heap.size, 0, none⟩ = some (.int .i64 o) := (by rw [Lib.cell_of_heap hvu]; rfl)
  have d1 : u.cell? ⟨w.heap.size, 1, none⟩ = some (.int .i64 q) := (by rw [Lib.cell_of_heap hvu]; rfl)
  have d2 : u.cell? ⟨w.heap.size, 2, none⟩ = some (.string t) := (by rw [Lib.cell_of_heap hvu]; rfl)
  clear HB HV hvb hBu hvu
  have HB0 := hid (HH.out.trans (HBu.out.mono HH.out.size) : Below w0.heap.size w0 u)
  have hg := Errs.at_ (HE.out.below HB0.out) 4 6 rfl
  have HBL := hid (blame_er (HA.out.below HB0.out) (.inl rfl : Er_WireB es (erv es 5) 5) (by decide) (by decide) 1)
  go_wp2_with fail
  refine HBL.out.mono ?_
  rintro e z1 ⟨v1, rfl, hF1, hb1⟩
  have HF1 := hid hF1
  have HB1 := hid hb1
  clear hF1 hb1
  go_wp2_with fail
  go_ret
  exact ⟨v1, rfl, HF1.out, Below.on HBu.out HB1.out⟩
theorem hnd_ok (hA : All w0 es) (hE : Errs w0 gerrs es) (hG : Glb w0) (h : Dke es w0 a mm d w Z) (hk : d.kli i = some k) (hc : a.cs[(i - 1).toNat]? = some (some c)) (o q : Int) (ho : -9223372036854775808 ≤ o ∧ o ≤ 9223372036854775807) (t : ByteArray) (ht : t.size ≤ 1000000)
  (F : Int) (hF : (k.ids o).1 = F) (hF0 : F ≠ 0) (hR : (rqAt F q).isSome = true) (hfin : rqB F q = false) (l : List AV) (hg : gotE o q t.data.toList (rqS F q) = 0) (hl : gotL o q t.data.toList (rqS F q) = l) (hf2 : F = 2 → 3 ≤ l.length) (k1 : Kl) (hev : k1.ev = k.ev)
  (hadd : ∀ X w e w', AddR es w0 c i k X w F q o l e w' → e = .returned .nilIface ∧ Nx (Tcl w0 c i k1) X w w') (n : Nat) (d' : Dsk)
  (hdo : ∀ u Y x m cc, Dke es w0 a mm (d.kput i k1) u Y → RdA u x m cc l → Calls Tryz.prog 45 #[ptz a.p, ptz c.q, .int .i64 F, .agg #[.int .i64 o, .int .i64 q, .slice x m cc]] u fun e w' => e = .returned .nilIface ∧ Nx (Dke es w0 a n d') Y u w') :
  Calls Tryz.prog 28 #[ptz a.p, ptz c.q, .agg #[.int .i64 o, .int .i64 q, .string t]] w fun e w' => e = .returned .nilIface ∧ Nx (Dke es w0 a n d') Z w w' := by
 have HLN := hid (ldt_cl (k' := k1) hk hc (fun hok => hok.kput_ i (Nat.le_refl _) hok.mx (by rw [hev]; exact hok.evl hk)) : Ln (Dke es w0 a mm d) (Tcl w0 c i k) (Dke es w0 a mm (d.kput i k1)) (Tcl w0 c i k1))
 obtain ⟨X, hT, hXZ⟩ := HLN.out.get h
 obtain ⟨v, hv, _⟩ := clt_var hT
 have c1 : w.cell? ⟨c.q, 1, none⟩ = some (ptz c.ob) := by rw [Lib.cell_of_heap hv]; rfl
 have lq : c.q < w.heap.size := (Array.getElem?_eq_some_iff.1 hv).1
 have HB := hid (bel_mkK w (.cells #[.int .i64 o, .int .i64 q, .string t] 31))
 have hvb := heap_alloc_new w (.cells #[.int .i64 o, .int .i64 q, .string t] 31)
 have HV : Hid (∀ u, Below w.heap.size w u → Calls Tryz.prog 33 #[ptz c.ob, .int .i64 o] u fun e w' => e = .returned (.int .i64 (k.ids o).1) ∧ w' = u) := fun u hu => by
  obtain ⟨Y, hY, _⟩ := (lcl_ids k.ids).get ((tcl_ft w0 c i k).on hT hu)
  exact hY.face o ho
 have HA := hid hA
 have HE := hid hE
 have HH := hid (tcl_bel hT)
 have HT := hid hT
 have HD := hid h
 have HG := hid hG
 have HDO := hid hdo
 have HAD := hid hadd
 have HGT := hid (And.intro hg hl)
 have HR := hid hR
 have HFN := hid hfin
 rw [hF] at HV
 clear h hT hA hE hv hF hG hdo hadd hg hl hR hfin hk hc hXZ hev
 go_enter Tryz.func28, Tryz.ntmps28
 go_wp2_with fail
 apply wp_same (S := fun u => Below w.heap.size w u ∧ u.heap[w.heap.size]? = some (.cells #[.int .i64 o, .int .i64 q, .string t] 31 (0, 0)))
 case h =>
  have hHeld := (⟨HB.out.drew, hvb⟩ : Below w.heap.size w (w.alloc (.cells #[.int .i64 o, .int .i64 q, .string t] 31)).drew ∧ (w.alloc (.cells #[.int .i64 o, .int .i64 q, .string t] 31)).drew.heap[w.heap.size]? = some (.cells #[.int .i64 o, .int .i64 q, .string t] 31 (0, 0)))
  refine wp_region_held_drew (S := fun x0 => Below w.heap.size w x0 ∧ x0.heap[w.heap.size]? = some (.cells #[.int .i64 o, .int .i64 q, .string t] 31 (0, 0))) (by kernel_rfl) hHeld (fun _ => ?_)
  refine wpAnyH_take (i := 0) (v := ?_) rfl (by kernel_rfl) (by kernel_rfl) (by kernel_rfl) (fun _ _ _ h => h) (Or.inl ⟨by kernel_rfl, ?hy0⟩) (by assumption) ?_
  case hy0 => (intro w hSw; (try dsimp only at hSw); obtain ⟨q1, q2⟩ := hSw; have t0 := (Lib.cell_of_heap q2 0).trans (rfl : _ = some (Value.int .i64 o)); have t2 := (q1.cell lq).trans c1; go_simp; try with_reducible rfl)
  try simp only [Act.put, List.getElem_toArray, List.getElem_cons_zero, List.setIfInBounds_toArray, List.set_cons_zero, List.set_cons_succ]
  refine wpAnyH_take (i := 1) (v := ?_) rfl (by kernel_rfl) (by kernel_rfl) (by kernel_rfl) (fun _ _ _ h => h) (Or.inl ⟨by kernel_rfl, ?hy1⟩) (by assumption) ?_
  case hy1 => (intro w hSw; (try dsimp only at hSw); obtain ⟨q1, q2⟩ := hSw; have t0 := (Lib.cell_of_heap q2 0).trans (rfl : _ = some (Value.int .i64 o)); have t2 := (q1.cell lq).trans c1; go_simp; try with_reducible rfl)
  try simp only [Act.put, List.getElem_toArray, List.getElem_cons_zero, List.getElem_cons_succ, List.setIfInBounds_toArray, List.set_cons_zero, List.set_cons_succ]
  refine wpAnyH_take (i := 2) (v := ?_) rfl (by kernel_rfl) (by kernel_rfl) (by kernel_rfl) (fun _ _ _ h => h) (Or.inl ⟨by kernel_rfl, ?hy2⟩) (by assumption) ?_
  case hy2 => (intro w hSw; (try dsimp only at hSw); obtain ⟨q1, q2⟩ := hSw; have t0 := (Lib.cell_of_heap q2 0).trans (rfl : _ = some (Value.int .i64 o)); have t2 := (q1.cell lq).trans c1; go_simp; try with_reducible rfl)
  try simp only [Act.put, List.getElem_toArray, List.getElem_cons_zero, List.getElem_cons_succ, List.setIfInBounds_toArray, List.set_cons_zero, List.set_cons_succ]
  refine wpAnyH_take (i := 3) (v := ?_) rfl (by kernel_rfl) (by kernel_rfl) (by kernel_rfl) (fun _ _ _ h => h) (Or.inl ⟨by kernel_rfl, ?hy3⟩) (by assumption) ?_
  case hy3 => (intro w hSw; (try dsimp only at hSw); obtain ⟨q1, q2⟩ := hSw; have t0 := (Lib.cell_of_heap q2 0).trans (rfl : _ = some (Value.int .i64 o)); have t2 := (q1.cell lq).trans c1; go_simp; try with_reducible rfl)
  try simp only [Act.put, List.getElem_toArray, List.getElem_cons_zero, List.getElem_cons_succ, List.setIfInBounds_toArray, List.set_cons_zero, List.set_cons_succ]
  refine wpAnyH_take (i := 4) (v := ?_) rfl (by kernel_rfl) (by kernel_rfl) (by kernel_rfl) (fun _ _ _ h => h) (Or.inl ⟨by kernel_rfl, ?hy4⟩) (by assumption) ?_
  case hy4 => (intro w hSw; (try dsimp only at hSw); obtain ⟨q1, q2⟩ := hSw; have t0 := (Lib.cell_of_heap q2 0).trans (rfl : _ = some (Value.int .i64 o)); have t2 := (q1.cell lq).trans c1; go_simp; try with_reducible rfl)
  try simp only [Act.put, List.getElem_toArray, List.getElem_cons_zero, List.getElem_cons_succ, List.setIfInBounds_toArray, List.set_cons_zero, List.set_cons_succ]
  refine wpAnyH_take (i := 5) (v := ?_) rfl (by kernel_rfl) (by kernel_rfl) (by kernel_rfl) (fun _ _ _ h => h) (Or.inl ⟨by kernel_rfl, ?hy5⟩) (by assumption) ?_
  case hy5 => (intro w hSw; (try dsimp only at hSw); obtain ⟨q1, q2⟩ := hSw; have t0 := (Lib.cell_of_heap q2 0).trans (rfl : _ = some (Value.int .i64 o)); have t2 := (q1.cell lq).trans c1; go_simp; try with_reducible rfl)
  try simp only [Act.put, List.getElem_toArray, List.getElem_cons_zero, List.getElem_cons_succ, List.setIfInBounds_toArray, List.set_cons_zero, List.set_cons_succ]
  refine wpAnyH_ready (rs := [6]) (by kernel_rfl) (by simp) ?_
  refine AllReadyH.cons rfl (fun K hK => ?_) AllReadyH.nil
  go_simp
  go_wp2_with fail
  refine (HV.out _ hHeld.1).mono ?_
  rintro e u10 ⟨rfl, rfl⟩
  refine hK.out _ _ hHeld (fun _ => ?_)
  clear hK K
  try simp only [Act.put, List.getElem_toArray, List.getElem_cons_zero, List.getElem_cons_succ, List.setIfInBounds_toArray, List.set_cons_zero, List.set_cons_succ]
  refine wpAnyH_take (i := 7) (v := ?_) rfl (by kernel_rfl) (by kernel_rfl) (by kernel_rfl) (fun _ _ _ h => h) (Or.inl ⟨by kernel_rfl, ?hy7⟩) (by assumption) ?_
  case hy7 => (intro w hSw; (try dsimp only at hSw); obtain ⟨q1, q2⟩ := hSw; have t0 := (Lib.cell_of_heap q2 0).trans (rfl : _ = some (Value.int .i64 o)); have t2 := (q1.cell lq).trans c1; go_simp; try with_reducible rfl)
  try simp only [Act.put, List.getElem_toArray, List.getElem_cons_zero, List.getElem_cons_succ, List.setIfInBounds_toArray, List.set_cons_zero, List.set_cons_succ]
  refine wpAnyH_done (by kernel_rfl) ?_ _
  exact ⟨rfl, hHeld⟩
 case hq =>
  intro u ⟨hBu, hvu⟩
  have HBu := hid hBu
  have Hvu := hid hvu
  have lw : w.heap.size < u.heap.size := (Array.getElem?_eq_some_iff.1 hvu).1
  have lqu : c.q < u.heap.size := Nat.lt_of_lt_of_le lq hBu.size
  have d0 : u.cell? ⟨w.heap.size, 0, none⟩ = some (.int .i64 o) := (by rw [Lib.cell_of_heap hvu]; rfl)
  have d1 : u.cell? ⟨w.heap.size, 1, none⟩ = some (.int .i64 q) := (by rw [Lib.cell_of_heap hvu]; rfl)
  have d2 : u.cell? ⟨w.heap.size, 2, none⟩ = some (.string t) := (by rw [Lib.cell_of_heap hvu]; rfl)
  clear HB HV hvb hBu hvu
  have eF_FtA : (F == 0) = false := by simpa using hF0
  have HB0 := hid (HH.out.trans (HBu.out.mono HH.out.size) : Below w0.heap.size w0 u)
  have hRQ := Request_any F q u _ (errs_method (HE.out.below HB0.out))
  rw [HR.out] at hRQ
  have HRQ := hid hRQ
  clear hRQ hF0
  go_wp2_with fail
  refine HRQ.out.mono ?_
  rintro e u2 ⟨rfl, hb2⟩
  have HB2 := hid (Below.on HBu.out hb2)
  have hv2 := (kp_of_below hb2 []).var Hvu.out (by simp)
  have f0 : u2.cell? ⟨w.heap.size, 0, none⟩ = some (.int .i64 o) := (by rw [Lib.cell_of_heap hv2]; rfl)
  have f1 : u2.cell? ⟨w.heap.size, 1, none⟩ = some (.int .i64 q) := (by rw [Lib.cell_of_heap hv2]; rfl)
  have f2 : u2.cell? ⟨w.heap.size, 2, none⟩ = some (.string t) := (by rw [Lib.cell_of_heap hv2]; rfl)
  have lw2 : w.heap.size < u2.heap.size := (Array.getElem?_eq_some_iff.1 hv2).1
  have HGE := hid (Get_any o q t ⟨(rqS F q).toArray⟩ ht (by have := (rqS_letters F q).1; simpa [ByteArray.size] using Nat.le_trans this (by decide)) u2 es (E4.of (HE.out.below (Below.trans HB0.out (hb2.mono HB0.out.size))) rfl))
  clear d0 d1 d2 HRQ hb2 Hvu
  simp only [errv]
  go_wp2_with fail
  refine HGE.out.mono ?_
  rintro e u3 ⟨v3, r3, rfl, hr3, hv3, hb3⟩
  rw [HGT.out.1] at hr3
  obtain rfl := hr3.nil
  obtain ⟨x, m, cc, rfl, hrd, _, hxx⟩ := hv3
  have HB2s := hid HB2.out.size
  rw [HGT.out.2] at hrd
  rw [gotO, if_pos HGT.out.1, gotQ, if_pos HGT.out.1]
  have HB3 := hid (Below.on HB2.out hb3)
  have HRD := hid hrd
  clear HGE hb3 hrd f0 f1 f2 HB2 lw2 hv2
  go_wp2_with fail
  have hvm := heap_alloc_new u3 (.cells #[.int .i64 o, .int .i64 q, .slice x m cc] 42)
  have hbm := bel_mkK u3 (.cells #[.int .i64 o, .int .i64 q, .slice x m cc] 42)
  have hRW := HRD.out.kpz (kp_of_below hbm []) (by simp)
  have hlt : u3.heap.size < (u3.alloc (.cells #[.int .i64 o, .int .i64 q, .slice x m cc] 42)).heap.size := (Array.getElem?_eq_some_iff.1 hvm).1
  have hBW := Below.on HB3.out hbm
  generalize (u3.alloc (.cells #[.int .i64 o, .int .i64 q, .slice x m cc] 42)) = W at *
  have lu3 : w.heap.size ≤ u3.heap.size := HB3.out.size
  have hxb : ∀ b ∈ abl (x, m, cc), w.heap.size ≤ b := fun b hb => by
   obtain ⟨_, y, hy, rfl⟩ := mem_abl.1 hb
   exact Nat.le_trans HB2s.out (hxx y hy)
  generalize u3.heap.size = B at *
  obtain ⟨XW, hTW, hXZ, hNN⟩ := HLN.out W Z ((dt_ft es w0 a mm d).on HD.out hBW)
  have hZ : ∀ b ∈ Z, b < w.heap.size := fun b hb => ((dt_ft es w0 a mm d).lt HD.out b hb).2
  have hCA := cadd_any HA.out HE.out hTW (HG.out.on (tcl_bel hTW)) F o q ho x m cc l hRW (fun h => by have := hRW.len; have := hf2 h; omega)
  have HK := hid (And.intro hvm (And.intro hRW (And.intro hlt (And.intro hBW (And.intro lu3 (And.intro hxb (And.intro hXZ (And.intro hNN hZ))))))))
  have HCA := hid hCA
  clear hCA hvm hRW hlt hBW lu3 hxb hXZ hNN hZ hbm HRD HB3 hTW
  refine HCA.out.mono ?_
  rintro e u5 hadr
  obtain ⟨rfl, hN5⟩ := HAD.out _ _ _ _ hadr
  have hK5 : Below W.heap.size W u5 ∨ True := .inr trivial
  clear hK5
  obtain ⟨hvm, hRW, hlt, hBW, lu3, hxb, hXZ, hNN, hZ⟩ := HK.out
  obtain ⟨Z5, hd5, k5, s5⟩ := hNN u5 hN5
  obtain ⟨_, _, kx, _⟩ := hN5
  have hBZ : B ∉ Z := fun hm => absurd (hZ _ hm) (by omega)
  have hv5 := kx.var hvm (fun hm => hBZ (hXZ _ hm))
  have hR5 := hRW.kpz kx (fun b hb hm => absurd (hZ _ (hXZ _ hm)) (by have := hxb b hb; omega))
  have HDO5 := hid (HDO.out u5 Z5 x m cc hd5 hR5)
  have HN5 := hid (fun w' (hN : Nx (Dke es w0 a n d') Z5 u5 w') => Nx.before (Nx.trans ⟨hd5, k5, s5⟩ hN : Nx (Dke es w0 a n d') Z W w') hBW)
  have HB5 := hid (fun hm => (s5 _ hm).elim hBZ (fun h => absurd h (by omega)) : B ∉ Z5)
  have g0 : u5.cell? ⟨B, 0, none⟩ = some (.int .i64 o) := (by rw [Lib.cell_of_heap hv5]; rfl)
  have g1 : u5.cell? ⟨B, 1, none⟩ = some (.int .i64 q) := (by rw [Lib.cell_of_heap hv5]; rfl)
  have g2 : u5.cell? ⟨B, 2, none⟩ = some (.slice x m cc) := (by rw [Lib.cell_of_heap hv5]; rfl)
  have lB : B < u5.heap.size := (Array.getElem?_eq_some_iff.1 hv5).1
  have HV5 := hid hv5
  clear hv5 hR5 hd5 k5 s5 kx hBZ hvm hRW hlt hBW lu3 hxb hXZ hNN hZ hadr HK HCA
  go_wp2_with fail
  refine HDO5.out.mono ?_
  rintro e u6 ⟨rfl, hN6⟩
  have hv6 := HV5.out
  have HN6 := hid (HN5.out u6 hN6)
  have g3 : u6.cell? ⟨B, 1, none⟩ = some (.int .i64 q) := by
   obtain ⟨_, _, k6, _⟩ := hN6
   rw [Lib.cell_of_heap (k6.var hv6 HB5.out)]
   rfl
  clear hv6 hN6 HDO5 g0 g1 g2
  go_wp2_with fail
  refine (Ends_any F q u6).mono ?_
  rintro e u7 ⟨rfl, hb7⟩
  rw [HFN.out]
  have HB7 := hid hb7
  clear hb7
  go_wp2_with fail
  go_ret
  exact ⟨rfl, Nx.more (dt_ft es w0 a n d') HN6.out HB7.out⟩
theorem hnd_arg (hA : All w0 es) (hE : Errs w0 gerrs es) (hG : Glb w0) (h : Tcl w0 c i k w X) (dp : Value) (o q : Int) (ho : -9223372036854775808 ≤ o ∧ o ≤ 9223372036854775807) (t : ByteArray) (ht : t.size ≤ 1000000)
  (F : Int) (hF : (k.ids o).1 = F) (hF0 : F ≠ 0) (hR : (rqAt F q).isSome = true) (l : List AV) (hg : gotE o q t.data.toList (rqS F q) = 0) (hl : gotL o q t.data.toList (rqS F q) = l) (hf2 : F = 2 → 3 ≤ l.length) (kk : Nat) (hkk : 1 ≤ kk)
  (hadd : ∀ X w e w', AddR es w0 c i k X w F q o l e w' → e = .returned (erv es kk) ∧ Nx (Tcl w0 c i k) X w w') :
  Calls Tryz.prog 28 #[dp, ptz c.q, .agg #[.int .i64 o, .int .i64 q, .string t]] w fun e w' => e = .returned (erv es kk) ∧ Nx (Tcl w0 c i k) X w w' := by
 obtain ⟨v, hv, _⟩ := clt_var h
 have c1 : w.cell? ⟨c.q, 1, none⟩ = some (ptz c.ob) := by rw [Lib.cell_of_heap hv]; rfl
 have lq : c.q < w.heap.size := (Array.getElem?_eq_some_iff.1 hv).1
 have HB := hid (bel_mkK w (.cells #[.int .i64 o, .int .i64 q, .string t] 31))
 have hvb := heap_alloc_new w (.cells #[.int .i64 o, .int .i64 q, .string t] 31)
 have HV : Hid (∀ u, Below w.heap.size w u → Calls Tryz.prog 33 #[ptz c.ob, .int .i64 o] u fun e w' => e = .returned (.int .i64 (k.ids o).1) ∧ w' = u) := fun u hu => by
  obtain ⟨Y, hY, _⟩ := (lcl_ids k.ids).get ((tcl_ft w0 c i k).on h hu)
  exact hY.face o ho
 have HA := hid hA
 have HE := hid hE
 have HH := hid (tcl_bel h)
 have HT := hid h
 have HG := hid hG
 have HAD := hid hadd
 have HGT := hid (And.intro hg hl)
 have HR := hid hR
 rw [hF] at HV
 clear h hA hE hv hF hG hadd hg hl hR
 go_enter Tryz.func28, Tryz.ntmps28
 go_wp2_with fail
 apply wp_same (S := fun u => Below w.heap.size w u ∧ u.heap[w.heap.size]? = some (.cells #[.int .i64 o, .int .i64 q, .string t] 31 (0, 0)))
 case h =>
  have hHeld := (⟨HB.out.drew, hvb⟩ : Below w.heap.size w (w.alloc (.cells #[.int .i64 o, .int .i64 q, .string t] 31)).drew ∧ (w.alloc (.cells #[.int .i64 o, .int .i64 q, .string t] 31)).drew.heap[w.heap.size]? = some (.cells #[.int .i64 o, .int .i64 q, .string t] 31 (0, 0)))
  refine wp_region_held_drew (S := fun x0 => Below w.heap.size w x0 ∧ x0.heap[w.heap.size]? = some (.cells #[.int .i64 o, .int .i64 q, .string t] 31 (0, 0))) (by kernel_rfl) hHeld (fun _ => ?_)
  refine wpAnyH_take (i := 0) (v := ?_) rfl (by kernel_rfl) (by kernel_rfl) (by kernel_rfl) (fun _ _ _ h => h) (Or.inl ⟨by kernel_rfl, ?hy0⟩) (by assumption) ?_
  case hy0 => (intro w hSw; (try dsimp only at hSw); obtain ⟨q1, q2⟩ := hSw; have t0 := (Lib.cell_of_heap q2 0).trans (rfl : _ = some (Value.int .i64 o)); have t2 := (q1.cell lq).trans c1; go_simp; try with_reducible rfl)
  try simp only [Act.put, List.getElem_toArray, List.getElem_cons_zero, List.setIfInBounds_toArray, List.set_cons_zero, List.set_cons_succ]
  refine wpAnyH_take (i := 1) (v := ?_) rfl (by kernel_rfl) (by kernel_rfl) (by kernel_rfl) (fun _ _ _ h => h) (Or.inl ⟨by kernel_rfl, ?hy1⟩) (by assumption) ?_
  case hy1 => (intro w hSw; (try dsimp only at hSw); obtain ⟨q1, q2⟩ := hSw; have t0 := (Lib.cell_of_heap q2 0).trans (rfl : _ = some (Value.int .i64 o)); have t2 := (q1.cell lq).trans c1; go_simp; try with_reducible rfl)
  try simp only [Act.put, List.getElem_toArray, List.getElem_cons_zero, List.getElem_cons_succ, List.setIfInBounds_toArray, List.set_cons_zero, List.set_cons_succ]
  refine wpAnyH_take (i := 2) (v := ?_) rfl (by kernel_rfl) (by kernel_rfl) (by kernel_rfl) (fun _ _ _ h => h) (Or.inl ⟨by kernel_rfl, ?hy2⟩) (by assumption) ?_
  case hy2 => (intro w hSw; (try dsimp only at hSw); obtain ⟨q1, q2⟩ := hSw; have t0 := (Lib.cell_of_heap q2 0).trans (rfl : _ = some (Value.int .i64 o)); have t2 := (q1.cell lq).trans c1; go_simp; try with_reducible rfl)
  try simp only [Act.put, List.getElem_toArray, List.getElem_cons_zero, List.getElem_cons_succ, List.setIfInBounds_toArray, List.set_cons_zero, List.set_cons_succ]
  refine wpAnyH_take (i := 3) (v := ?_) rfl (by kernel_rfl) (by kernel_rfl) (by kernel_rfl) (fun _ _ _ h => h) (Or.inl ⟨by kernel_rfl, ?hy3⟩) (by assumption) ?_
  case hy3 => (intro w hSw; (try dsimp only at hSw); obtain ⟨q1, q2⟩ := hSw; have t0 := (Lib.cell_of_heap q2 0).trans (rfl : _ = some (Value.int .i64 o)); have t2 := (q1.cell lq).trans c1; go_simp; try with_reducible rfl)
  try simp only [Act.put, List.getElem_toArray, List.getElem_cons_zero, List.getElem_cons_succ, List.setIfInBounds_toArray, List.set_cons_zero, List.set_cons_succ]
  refine wpAnyH_take (i := 4) (v := ?_) rfl (by kernel_rfl) (by kernel_rfl) (by kernel_rfl) (fun _ _ _ h => h) (Or.inl ⟨by kernel_rfl, ?hy4⟩) (by assumption) ?_
  case hy4 => (intro w hSw; (try dsimp only at hSw); obtain ⟨q1, q2⟩ := hSw; have t0 := (Lib.cell_of_heap q2 0).trans (rfl : _ = some (Value.int .i64 o)); have t2 := (q1.cell lq).trans c1; go_simp; try with_reducible rfl)
  try simp only [Act.put, List.getElem_toArray, List.getElem_cons_zero, List.getElem_cons_succ, List.setIfInBounds_toArray, List.set_cons_zero, List.set_cons_succ]
  refine wpAnyH_take (i := 5) (v := ?_) rfl (by kernel_rfl) (by kernel_rfl) (by kernel_rfl) (fun _ _ _ h => h) (Or.inl ⟨by kernel_rfl, ?hy5⟩) (by assumption) ?_
  case hy5 => (intro w hSw; (try dsimp only at hSw); obtain ⟨q1, q2⟩ := hSw; have t0 := (Lib.cell_of_heap q2 0).trans (rfl : _ = some (Value.int .i64 o)); have t2 := (q1.cell lq).trans c1; go_simp; try with_reducible rfl)
  try simp only [Act.put, List.getElem_toArray, List.getElem_cons_zero, List.getElem_cons_succ, List.setIfInBounds_toArray, List.set_cons_zero, List.set_cons_succ]
  refine wpAnyH_ready (rs := [6]) (by kernel_rfl) (by simp) ?_
  refine AllReadyH.cons rfl (fun K hK => ?_) AllReadyH.nil
  go_simp
  go_wp2_with fail
  refine (HV.out _ hHeld.1).mono ?_
  rintro e u10 ⟨rfl, rfl⟩
  refine hK.out _ _ hHeld (fun _ => ?_)
  clear hK K
  try simp only [Act.put, List.getElem_toArray, List.getElem_cons_zero, List.getElem_cons_succ, List.setIfInBounds_toArray, List.set_cons_zero, List.set_cons_succ]
  refine wpAnyH_take (i := 7) (v := ?_) rfl (by kernel_rfl) (by kernel_rfl) (by kernel_rfl) (fun _ _ _ h => h) (Or.inl ⟨by kernel_rfl, ?hy7⟩) (by assumption) ?_
  case hy7 => (intro w hSw; (try dsimp only at hSw); obtain ⟨q1, q2⟩ := hSw; have t0 := (Lib.cell_of_heap q2 0).trans (rfl : _ = some (Value.int .i64 o)); have t2 := (q1.cell lq).trans c1; go_simp; try with_reducible rfl)
  try simp only [Act.put, List.getElem_toArray, List.getElem_cons_zero, List.getElem_cons_succ, List.setIfInBounds_toArray, List.set_cons_zero, List.set_cons_succ]
  refine wpAnyH_done (by kernel_rfl) ?_ _
  exact ⟨rfl, hHeld⟩
 case hq =>
  intro u ⟨hBu, hvu⟩
  have HBu := hid hBu
  have Hvu := hid hvu
  have lw : w.heap.size < u.heap.size := (Array.getElem?_eq_some_iff.1 hvu).1
  have lqu : c.q < u.heap.size := Nat.lt_of_lt_of_le lq hBu.size
  have d0 : u.cell? ⟨w.heap.size, 0, none⟩ = some (.int .i64 o) := (by rw [Lib.cell_of_heap hvu]; rfl)
  have d1 : u.cell? ⟨w.heap.size, 1, none⟩ = some (.int .i64 q) := (by rw [Lib.cell_of_heap hvu]; rfl)
  have d2 : u.cell? ⟨w.heap.size, 2, none⟩ = some (.string t) := (by rw [Lib.cell_of_heap hvu]; rfl)
  clear HB HV hvb hBu hvu
  have eF_FtA : (F == 0) = false := by simpa using hF0
  have HB0 := hid (HH.out.trans (HBu.out.mono HH.out.size) : Below w0.heap.size w0 u)
  have hRQ := Request_any F q u _ (errs_method (HE.out.below HB0.out))
  rw [HR.out] at hRQ
  have HRQ := hid hRQ
  clear hRQ hF0
  go_wp2_with fail
  refine HRQ.out.mono ?_
  rintro e u2 ⟨rfl, hb2⟩
  have HB2 := hid (Below.on HBu.out hb2)
  have hv2 := (kp_of_below hb2 []).var Hvu.out (by simp)
  have f0 : u2.cell? ⟨w.heap.size, 0, none⟩ = some (.int .i64 o) := (by rw [Lib.cell_of_heap hv2]; rfl)
  have f1 : u2.cell? ⟨w.heap.size, 1, none⟩ = some (.int .i64 q) := (by rw [Lib.cell_of_heap hv2]; rfl)
  have f2 : u2.cell? ⟨w.heap.size, 2, none⟩ = some (.string t) := (by rw [Lib.cell_of_heap hv2]; rfl)
  have lw2 : w.heap.size < u2.heap.size := (Array.getElem?_eq_some_iff.1 hv2).1
  have HGE := hid (Get_any o q t ⟨(rqS F q).toArray⟩ ht (by have := (rqS_letters F q).1; simpa [ByteArray.size] using Nat.le_trans this (by decide)) u2 es (E4.of (HE.out.below (Below.trans HB0.out (hb2.mono HB0.out.size))) rfl))
  clear d0 d1 d2 HRQ hb2 Hvu
  simp only [errv]
  go_wp2_with fail
  refine HGE.out.mono ?_
  rintro e u3 ⟨v3, r3, rfl, hr3, hv3, hb3⟩
  rw [HGT.out.1] at hr3
  obtain rfl := hr3.nil
  obtain ⟨x, m, cc, rfl, hrd, _, hxx⟩ := hv3
  have HB2s := hid HB2.out.size
  rw [HGT.out.2] at hrd
  rw [gotO, if_pos HGT.out.1, gotQ, if_pos HGT.out.1]
  have HB3 := hid (Below.on HB2.out hb3)
  have HRD := hid hrd
  clear HGE hb3 hrd f0 f1 f2 HB2 lw2 hv2
  go_wp2_with fail
  have hvm := heap_alloc_new u3 (.cells #[.int .i64 o, .int .i64 q, .slice x m cc] 42)
  have hbm := bel_mkK u3 (.cells #[.int .i64 o, .int .i64 q, .slice x m cc] 42)
  have hRW := HRD.out.kpz (kp_of_below hbm []) (by simp)
  have hlt : u3.heap.size < (u3.alloc (.cells #[.int .i64 o, .int .i64 q, .slice x m cc] 42)).heap.size := (Array.getElem?_eq_some_iff.1 hvm).1
  have hBW := Below.on HB3.out hbm
  generalize (u3.alloc (.cells #[.int .i64 o, .int .i64 q, .slice x m cc] 42)) = W at *
  have hTW := (tcl_ft w0 c i k).on HT.out hBW
  have HCA := hid (cadd_any HA.out HE.out hTW (HG.out.on (tcl_bel hTW)) F o q ho x m cc l hRW (fun h => by have := hRW.len; have := hf2 h; omega))
  have HBW := hid hBW
  clear hvm hRW hlt hBW hbm HRD HB3 hTW
  refine HCA.out.mono ?_
  rintro e u5 hadr
  obtain ⟨rfl, hN5⟩ := HAD.out _ _ _ _ hadr
  have HN5 := hid (Nx.before hN5 HBW.out)
  obtain ⟨t9, y9, h9⟩ := erv_if es hkk
  rw [h9]
  clear hadr hN5 HCA HAD
  go_wp2_with fail
  go_ret
  exact ⟨by rw [h9]; rfl, HN5.out⟩
end
end
end Go.Proofs.YtpbgbpcdohdecaaGreatDoor
