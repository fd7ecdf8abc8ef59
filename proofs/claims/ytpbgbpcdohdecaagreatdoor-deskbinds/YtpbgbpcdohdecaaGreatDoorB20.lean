/- Lemmas that the proof leans on. -/
import Derived.Test.YtpbgbpcdohdecaaGreatDoorB19
namespace Go.Proofs.YtpbgbpcdohdecaaGreatDoor
open Go Go.RowKit
set_option maxRecDepth 100000
set_option maxHeartbeats 8000000
section
variable {w w' w0 : World} {p b W H : Nat} {L : List Int} {g : Int → Int → Int → Int} {d d' : Int → Int → Bool}
structure St_CanD (w0 w : World) (p b W H : Nat) (g : Int → Int → Int → Int) (d : Int → Int → Bool) (L : List Int) : Prop where
 cv : Cv 91 w p b W H (trn W g d L)
 kp : Kp [b] w0 w
theorem St_CanD.on (h : St_CanD w0 w p b W H g d L) (hb : Below w.heap.size w w') : St_CanD w0 w' p b W H g d L :=
 ⟨h.cv.on hb, h.kp.trans (kp_of_below hb []) (by simp)⟩
theorem St_CanD.congr (h : St_CanD w0 w p b W H g d L) (e : ∀ x y, d x y = d' x y) : St_CanD w0 w p b W H g d' L := by
 rw [show d' = d from funext fun x => funext fun y => (e x y).symm]
 exact h
theorem St_CanD.len (h : St_CanD w0 w p b W H g d L) : L.length = W * H := by
 have := h.cv.len
 rwa [trn_length] at this
def adds (d : Int → Int → Bool) (x n y : Int) (u v : Int) : Bool := d u v || (decide (v = y) && decide (x ≤ u) && decide (u < x + n))
theorem Cv.no64 {ty : Nat} (h : Cv ty w p b W H L) {i : Nat} {z : Int} (hc : w.cell? ⟨b, i, none⟩ = some (.int .i64 z)) : False := by
 rcases h.row.2 with ⟨e0, _⟩ | ⟨g', cap, cur, e0, _, hg, _, _, hcs, ht⟩
 ·cases e0
 ·cases e0
  have hi : i < W * H := by
   rw [Lib.cell_of_heap hg] at hc
   have := (Array.getElem?_eq_some_iff.1 hc).1
   omega
  have hl := h.len
  rw [h.cell (List.getElem?_eq_getElem (by omega))] at hc
  cases hc
theorem RdC.kept {a : Option Addr} {n c : Nat} {l : List Rc} (h : RdC w a n c l) (hk : Kp [b] w w') (hn : ∀ i z, w.cell? ⟨b, i, none⟩ ≠ some (.int .i64 z)) : RdC w' a n c l :=
 ⟨h.len, h.le, h.max, h.hnil, fun h0 => by
  obtain ⟨b', off, e, h1, h2⟩ := h.pl h0
  refine ⟨b', off, e, Nat.lt_of_lt_of_le h1 hk.size, fun j r hj => ?_⟩
  have he := h2 j r hj
  have hne : b' ∉ [b] := by
   simp only [List.mem_cons, List.not_mem_nil, or_false]
   rintro rfl
   exact hn _ _ he.c0
  exact ⟨Nat.lt_of_lt_of_le he.lt hk.size, hk.cell he.c0 hne, hk.cell he.c1 hne, hk.cell he.c2 hne, hk.cell he.c3 hne⟩, h.ok⟩
theorem Bx.kept {q : Nat} {r : Rc} (h : Bx w q r) (hk : Kp [b] w w') (hn : q ≠ b) : Bx w' q r := ⟨hk.var h.obj (by simp [hn])⟩
def Does (k : Nat) (cap : Array Value) (w0 : World) (p b W H : Nat) (g : Int → Int → Int → Int) (P : Int → Int → Bool) (L : List Int) : Prop :=
 ∀ (d : Int → Int → Bool) (u : World) (x y n : Nat), St_CanD w0 u p b W H g d L → x + n ≤ W → y < H → 1 ≤ n → (∀ i : Nat, i < n → d ((x + i : Nat) : Int) y = false) → (∀ i : Nat, i < n → P ((x + i : Nat) : Int) y = true) →
  Calls Tryz.prog k (#[.int .i64 (x : Nat), .int .i64 (y : Nat), .slice (some ⟨b, y * W + x, none⟩) n (W - x)] ++ cap) u fun e w' => e = .returned (.tuple #[]) ∧ St_CanD w0 w' p b W H g (adds d x n y) L ∧ Kp [b] u w'
theorem inside {m : List Rc} {W H : Nat} (hm : Reg m) (hin : ∀ x y, pt m x y = true → has (ara W H) x y = true) (hW : 1 ≤ W) (hH : 1 ≤ H) {r : Rc} (hr : r ∈ m) : ∃ X Y N M : Nat, r = ⟨X, Y, N, M⟩ ∧ 1 ≤ N ∧ 1 ≤ M ∧ X + N ≤ W ∧ Y + M ≤ H := by
 have k := hm.ck r hr
 have q : ∀ x y, has r x y = true → (0 ≤ x ∧ x < W) ∧ 0 ≤ y ∧ y < H := fun x y h => by
  have h2 := hin x y (pt_iff.2 ⟨r, hr, h⟩)
  rw [has_ara hW hH] at h2
  simpa only [Bool.and_eq_true, decide_eq_true_eq] using h2
 have h1 := q r.x r.y (by rw [has_iff]; have := k.w; have := k.h; omega)
 have h2 := q (r.x + r.w - 1) (r.y + r.h - 1) (by rw [has_iff]; have := k.w; have := k.h; omega)
 have kw := k.w
 have kh := k.h
 obtain ⟨x, y, ww, hh⟩ := r
 dsimp only at *
 obtain ⟨X, rfl⟩ := Int.eq_ofNat_of_zero_le (show 0 ≤ x by omega)
 obtain ⟨Y, rfl⟩ := Int.eq_ofNat_of_zero_le (show 0 ≤ y by omega)
 obtain ⟨N, rfl⟩ := Int.eq_ofNat_of_zero_le (show 0 ≤ ww by omega)
 obtain ⟨M, rfl⟩ := Int.eq_ofNat_of_zero_le (show 0 ≤ hh by omega)
 exact ⟨X, Y, N, M, rfl, by omega, by omega, by omega, by omega⟩
def rws (m : List Rc) (j : Nat) (r : Rc) (t : Nat) (x y : Int) : Bool := pt (m.take j) x y || (has r x y && decide (y < r.y + t))
theorem rws_start {m : List Rc} {j : Nat} {r : Rc} (x y : Int) : pt (m.take j) x y = rws m j r 0 x y := by
 have : (has r x y && decide (y < r.y + (0 : Nat))) = false := by
  cases h : has r x y
  ·rfl
  ·have := has_iff.1 h
   simp
   omega
 rw [rws, this, Bool.or_false]
theorem rws_end {m : List Rc} {j : Nat} {r : Rc} {t : Nat} (hj : m[j]? = some r) (ht : r.h = t) (x y : Int) : rws m j r t x y = pt (m.take (j + 1)) x y := by
 have : (has r x y && decide (y < r.y + (t : Nat))) = has r x y := by
  cases h : has r x y
  ·rfl
  ·have := has_iff.1 h
   simp
   omega
 rw [rws, this, List.take_add_one, hj, pt_append]
 simp [pt]
theorem rws_step {m : List Rc} {j t X Y N M : Nat} (ht : t < M) (x y : Int) : adds (rws m j ⟨X, Y, N, M⟩ t) X N ((Y + t : Nat) : Int) x y = rws m j ⟨X, Y, N, M⟩ (t + 1) x y := by
 rw [adds, rws, rws, Bool.or_assoc]
 congr 1
 rw [Bool.eq_iff_iff]
 simp only [Bool.or_eq_true, Bool.and_eq_true, decide_eq_true_eq, has_iff]
 omega
theorem rws_free {m : List Rc} {j t : Nat} {r : Rc} (hm : Reg m) (hj : m[j]? = some r) {x y : Int} (hx : r.x ≤ x ∧ x < r.x + r.w) (_hy : r.y ≤ y ∧ y < r.y + r.h) (ht : r.y + t ≤ y) : rws m j r t x y = false := by
 rw [rws, Bool.or_eq_false_iff]
 refine ⟨pt_no.2 fun q hq => ?_, ?_⟩
 ·obtain ⟨i, hi⟩ := List.getElem?_of_mem hq
  have hij : i < j := by
   rcases Nat.lt_or_ge i j with h' | h'
   ·exact h'
   ·rw [List.getElem?_take_eq_none h'] at hi
    cases hi
  rw [List.getElem?_take_of_lt hij] at hi
  obtain ⟨l1, e1⟩ := List.getElem?_eq_some_iff.1 hi
  obtain ⟨l2, e2⟩ := List.getElem?_eq_some_iff.1 hj
  have ha := List.pairwise_iff_getElem.1 hm.aft i j l1 l2 hij
  rw [e1, e2] at ha
  cases h : has q x y
  ·rfl
  ·have h' := has_iff.1 h
   rcases ha with ha | ha <;> omega
 ·have : decide (y < r.y + t) = false := decide_eq_false (by omega)
  rw [this, Bool.and_false]
theorem each_any (k : Nat) (cap : Array Value) (eg : ∀ args w, (callFunc k args).run Tryz.prog w = .ok (.enter k args) w) (hS : St_CanD w0 w p b W H g (fun _ _ => false) L) (r : Rc) (hD : Does k cap w0 p b W H g (has (cut (ara W H) r)) L)
  (ok : r.Ok) (hmay : may (cut (ara W H) r) = true) (okc : (cut (ara W H) r).Ok) (a : Option Addr) (n c : Nat) (l : List Rc) (hr : RdC w a n c l) (hn : n ≤ 40)
  (hin : ∀ x y, has (cut (ara W H) r) x y = true → has (ara W H) x y = true) :
  Calls Tryz.prog 62 #[.pointer (some ⟨p, 0, none⟩), .agg #[.int .i64 r.x, .int .i64 r.y, .int .i64 r.w, .int .i64 r.h], .slice a n c, .func (.func k) #[] cap] w fun e w' => e = .returned (.tuple #[]) ∧ St_CanD w0 w' p b W H g (fun x y => has (cut (ara W H) r) x y && inC l x y) L := by
 have hWH := And.intro hS.cv.hW hS.cv.hH
 have HB := hid (below_new w (ob r))
 have HX := hid (bx_new w r)
 rw [ob] at HB
 have HR := hid (hr.on HB.out)
 have HS := hid (hS.on HB.out)
 have HD := hid hD
 have aok := ara_ok hS.cv
 have CC := hid (fun u => cut_any_RectC (ara W H) r aok ok u)
 have CP := hid (fun u (hu : RdC u a n c l) => parts_any (cut (ara W H) r) hmay okc 40 a n c l u hn hu hn)
 clear hr hS hD
 go_enter Tryz.func62, Tryz.ntmps62
 go_wp2
 obtain ⟨U, HU⟩ : ∃ U, Hid (U = w.alloc (.cells #[.int .i64 r.x, .int .i64 r.y, .int .i64 r.w, .int .i64 r.h] 97)) := ⟨_, rfl⟩
 rw [← HU.out] at HX HB HR HS
 rw [← HU.out]
 clear HU
 refine wp_region_held_drew (S := fun x => Below U.heap.size U x) (by kernel_rfl) ?hh (fun hHeld => ?_)
 case hh => exact ((Below.refl _ _).drew)
 refine wpAnyH_take (i := 0) (v := ?_) rfl (by kernel_rfl) (by kernel_rfl) (by kernel_rfl) (fun _ _ _ h => h) (Or.inl ⟨by kernel_rfl, ?hy0⟩) (by assumption) ?_
 case hy0 => (intro w hSw; (try dsimp only at hSw); obtain ⟨t0, t1, t2, t3⟩ := (HX.out.on hSw).all; go_simp; try with_reducible rfl)
 try simp only [Act.put, List.getElem_toArray, List.getElem_cons_zero, List.setIfInBounds_toArray, List.set_cons_zero, List.set_cons_succ]
 refine wpAnyH_take (i := 2) (v := ?_) rfl (by kernel_rfl) (by kernel_rfl) (by kernel_rfl) (fun _ _ _ h => h) (Or.inl ⟨by kernel_rfl, ?hy2⟩) (by assumption) ?_
 case hy2 => (intro w hSw; (try dsimp only at hSw); obtain ⟨t0, t1, t2, t3⟩ := (HX.out.on hSw).all; go_simp; try with_reducible rfl)
 try simp only [Act.put, List.getElem_toArray, List.getElem_cons_zero, List.getElem_cons_succ, List.setIfInBounds_toArray, List.set_cons_zero, List.set_cons_succ]
 refine wpAnyH_take (i := 4) (v := ?_) rfl (by kernel_rfl) (by kernel_rfl) (by kernel_rfl) (fun _ _ _ h => h) (Or.inl ⟨by kernel_rfl, ?hy4⟩) (by assumption) ?_
 case hy4 => (intro w hSw; (try dsimp only at hSw); obtain ⟨t0, t1, t2, t3⟩ := (HX.out.on hSw).all; go_simp; try with_reducible rfl)
 try simp only [Act.put, List.getElem_toArray, List.getElem_cons_zero, List.getElem_cons_succ, List.setIfInBounds_toArray, List.set_cons_zero, List.set_cons_succ]
 refine wpAnyH_take (i := 7) (v := ?_) rfl (by kernel_rfl) (by kernel_rfl) (by kernel_rfl) (fun _ _ _ h => h) (Or.inl ⟨by kernel_rfl, ?hy7⟩) (by assumption) ?_
 case hy7 => (intro w hSw; (try dsimp only at hSw); obtain ⟨t0, t1, t2, t3⟩ := (HX.out.on hSw).all; go_simp; try with_reducible rfl)
 try simp only [Act.put, List.getElem_toArray, List.getElem_cons_zero, List.getElem_cons_succ, List.setIfInBounds_toArray, List.set_cons_zero, List.set_cons_succ]
 refine wpAnyH_ready (rs := [1]) (by kernel_rfl) (by simp) ?_
 refine AllReadyH.cons rfl (fun K hK => ?_) AllReadyH.nil
 go_simp
 go_wp2_with fail
 refine (thn (carea_any (HS.out.on hHeld).cv) hHeld).mono ?_
 rintro e u201 ⟨rfl, hS1⟩
 refine hK.out _ _ hS1 (fun _ => ?_)
 clear hK K hHeld
 have hHeld := hS1
 clear hS1
 refine wpAnyH_ready (rs := [3]) (by kernel_rfl) (by simp) ?_
 refine AllReadyH.cons rfl (fun K hK => ?_) AllReadyH.nil
 go_simp
 go_wp2_with fail
 refine (thn (CC.out _) hHeld).mono ?_
 rintro e u203 ⟨rfl, hS3⟩
 refine hK.out _ _ hS3 (fun _ => ?_)
 clear hK K hHeld
 have hHeld := hS3
 clear hS3
 refine wpAnyH_ready (rs := [5]) (by kernel_rfl) (by simp) ?_
 refine AllReadyH.cons rfl (fun K hK => ?_) AllReadyH.nil
 go_simp
 go_wp2_with fail
 refine (CP.out _ (HR.out.on hHeld)).mono ?_
 rintro e u9 ⟨m, hP, a9, c9, rfl, hR, hb⟩
 have hB9 := Below.on hHeld hb
 refine hK.out _ _ hB9 (fun _ => ?_)
 clear hK K hHeld hb
 have hHeld := hB9
 refine wpAnyH_take (i := 6) (v := ?_) rfl (by kernel_rfl) (by kernel_rfl) (by kernel_rfl) (fun _ _ _ h => h) (Or.inl ⟨by kernel_rfl, ?hy6⟩) (by assumption) ?_
 case hy6 => (intro w hSw; (try dsimp only at hSw); obtain ⟨t0, t1, t2, t3⟩ := (HX.out.on hSw).all; go_simp; try with_reducible rfl)
 try simp only [Act.put, List.getElem_toArray, List.getElem_cons_zero, List.getElem_cons_succ, List.setIfInBounds_toArray, List.set_cons_zero, List.set_cons_succ]
 refine wpAnyH_done (by kernel_rfl) ?_ _
 have HS9 := hid (HS.out.on hB9)
 have HR9 := hid hR
 have HP := hid hP
 have hsm := hR.small
 have HI : Hid (∀ x y, pt m x y = true → has (ara W H) x y = true) := fun x y h => by
  rw [hP.pt, Bool.and_eq_true] at h
  exact hin x y h.1
 clear hR hP hB9 hHeld HX HB HR HS CC CP hin okc hmay ok aok
 go_wp2
 go_loopw [18] (fun i wr => ∃ j : Nat, i = .int .i64 j ∧ j ≤ m.length ∧ St_CanD w0 wr p b W H g (pt (m.take j)) L ∧ RdC wr a9 m.length c9 m) (fun i _ => m.length - (numOf i).toNat)
 case atStart => exact ⟨0, rfl, Nat.zero_le _, HS9.out.congr (fun x y => by rw [List.take_zero, pt_nil]), HR9.out⟩
 case round =>
  obtain ⟨j, rfl, hj, hS1, hR1⟩ := hrel
  have HS1 := hid hS1
  have HR1 := hid hR1
  clear hS1 hR1 HS9 HR9
  by_cases hgo : j < m.length
  ·have e1 : decide ((j : Int) < m.length) = true := decide_eq_true (by omega)
   have e3 : (j : Int) < m.length := by omega
   obtain ⟨b9, off9, q, rfl, _, hq, _, he⟩ := HR1.out.el hgo
   obtain ⟨X, Y, N, M, rfl, hN, hM, hXN, hYM⟩ := inside HP.out.gd.reg HI.out hWH.1.1 hWH.2.1 (List.mem_of_getElem? hq)
   obtain ⟨_, c0, c1, c2, c3⟩ := he
   have HQ := hid hq
   have HB2 := hid (below_new wr (ob ⟨X, Y, N, M⟩))
   have HX2 := hid (bx_new wr ⟨X, Y, N, M⟩)
   rw [ob] at HB2
   have HS2 := hid ((HS1.out.on HB2.out).congr (rws_start (r := ⟨X, Y, N, M⟩)))
   have HR2 := hid (HR1.out.on HB2.out)
   have hne : wr.heap.size ≠ b := by have := HS1.out.cv.lt.2; omega
   clear hq HB2 HS1 HR1
   go_wp2
   obtain ⟨Z, HZ⟩ : ∃ Z, Hid (Z = wr.alloc (.cells #[.int .i64 (X : Nat), .int .i64 (Y : Nat), .int .i64 (N : Nat), .int .i64 (M : Nat)] 97)) := ⟨_, rfl⟩
   rw [← HZ.out] at HX2 HS2 HR2
   try rw [← HZ.out]
   clear HZ
   obtain ⟨B, hB⟩ : ∃ B, wr.heap.size = B := ⟨_, rfl⟩
   rw [hB] at HX2 hne
   rw [hB]
   clear c0 c1 c2 c3 hB
   go_loopw [10] (fun v wr2 => ∃ y : Nat, v = .int .i64 y ∧ Y ≤ y ∧ y ≤ Y + M ∧ St_CanD w0 wr2 p b W H g (rws m j ⟨X, Y, N, M⟩ (y - Y)) L ∧ RdC wr2 (some ⟨b9, off9, none⟩) m.length c9 m ∧ Bx wr2 B ⟨X, Y, N, M⟩) (fun v _ => Y + M - (numOf v).toNat)
   case atStart => exact ⟨Y, rfl, Nat.le_refl _, by omega, by rw [Nat.sub_self]; exact HS2.out, HR2.out, HX2.out⟩
   case round =>
    obtain ⟨y, rfl, hy1, hy2, hS3, hR3, hX3⟩ := hrel
    have HS3 := hid hS3
    have HR3 := hid hR3
    have HX3 := hid hX3
    obtain ⟨t0, t1, t2, t3⟩ := hX3.all
    dsimp only at t0 t1 t2 t3
    clear hS3 hR3 hX3 HS2 HR2 HX2
    by_cases hgo2 : y < Y + M
    ·have e4 : decide ((y : Int) < (Y : Int) + (M : Int)) = true := decide_eq_true (by omega)
     obtain ⟨E, hE⟩ : ∃ E, X + N = E := ⟨_, rfl⟩
     have e5 : E ≤ W := by omega
     have e7 : IntKind.i64.wrap ((X : Int) + (N : Int)) = (E : Int) := by
      rw [IntKind.wrap_i64]
      omega
     have e8 : X ≤ E := by omega
     have e9 : E - X = N := by omega
     clear hE
     have e6 : ¬ W = X := by omega
     have hyH : y < H := by omega
     have HFR : Hid (∀ i : Nat, i < N → rws m j ⟨X, Y, N, M⟩ (y - Y) ((X + i : Nat) : Int) y = false) := fun i hi => rws_free HP.out.gd.reg HQ.out (by dsimp only; omega) (by dsimp only; omega) (by dsimp only; omega)
     have HPT : Hid (∀ i : Nat, i < N → has (cut (ara W H) r) ((X + i : Nat) : Int) y = true) := fun i hi => by
      have h1 : pt m ((X + i : Nat) : Int) y = true := pt_iff.2 ⟨_, List.mem_of_getElem? HQ.out, has_iff.2 (by dsimp only; omega)⟩
      rw [HP.out.pt, Bool.and_eq_true] at h1
      exact h1.1
     have HST : Hid (∀ u v, adds (rws m j ⟨X, Y, N, M⟩ (y - Y)) X N y u v = rws m j ⟨X, Y, N, M⟩ (y + 1 - Y) u v) := fun u v => by
      have := rws_step (m := m) (j := j) (t := y - Y) (X := X) (Y := Y) (N := N) (M := M) (by omega) u v
      rw [show Y + (y - Y) = y by omega, show y - Y + 1 = y + 1 - Y by omega] at this
      exact this
     go_wp2
     refine wp_region_held_drew (S := fun x => Bx x B ⟨X, Y, N, M⟩) (by kernel_rfl) ?hh (fun hHeld => ?_)
     case hh => exact (HX3.out.drew)
     refine wpAnyH_take (i := 0) (v := ?_) rfl (by kernel_rfl) (by kernel_rfl) (by kernel_rfl) (fun _ _ _ h => h) (Or.inl ⟨by kernel_rfl, ?hy0⟩) (by assumption) ?_
     case hy0 => (intro w hSw; (try dsimp only at hSw); obtain ⟨t0, t1, t2, t3⟩ := hSw.all; go_simp; try with_reducible rfl)
     try simp only [Act.put, List.getElem_toArray, List.getElem_cons_zero, List.setIfInBounds_toArray, List.set_cons_zero, List.set_cons_succ]
     refine wpAnyH_take (i := 1) (v := ?_) rfl (by kernel_rfl) (by kernel_rfl) (by kernel_rfl) (fun _ _ _ h => h) (Or.inl ⟨by kernel_rfl, ?hy1⟩) (by assumption) ?_
     case hy1 => (intro w hSw; (try dsimp only at hSw); obtain ⟨t0, t1, t2, t3⟩ := hSw.all; go_simp; try with_reducible rfl)
     try simp only [Act.put, List.getElem_toArray, List.getElem_cons_zero, List.getElem_cons_succ, List.setIfInBounds_toArray, List.set_cons_zero, List.set_cons_succ]
     refine wpAnyH_take (i := 2) (v := ?_) rfl (by kernel_rfl) (by kernel_rfl) (by kernel_rfl) (fun _ _ _ h => h) (Or.inl ⟨by kernel_rfl, ?hy2⟩) (by assumption) ?_
     case hy2 => (intro w hSw; (try dsimp only at hSw); obtain ⟨t0, t1, t2, t3⟩ := hSw.all; go_simp; try with_reducible rfl)
     try simp only [Act.put, List.getElem_toArray, List.getElem_cons_zero, List.getElem_cons_succ, List.setIfInBounds_toArray, List.set_cons_zero, List.set_cons_succ]
     refine wpAnyH_take (i := 3) (v := ?_) rfl (by kernel_rfl) (by kernel_rfl) (by kernel_rfl) (fun _ _ _ h => h) (Or.inl ⟨by kernel_rfl, ?hy3⟩) (by assumption) ?_
     case hy3 => (intro w hSw; (try dsimp only at hSw); obtain ⟨t0, t1, t2, t3⟩ := hSw.all; go_simp; try with_reducible rfl)
     try simp only [Act.put, List.getElem_toArray, List.getElem_cons_zero, List.getElem_cons_succ, List.setIfInBounds_toArray, List.set_cons_zero, List.set_cons_succ]
     refine wpAnyH_take (i := 4) (v := ?_) rfl (by kernel_rfl) (by kernel_rfl) (by kernel_rfl) (fun _ _ _ h => h) (Or.inl ⟨by kernel_rfl, ?hy4⟩) (by assumption) ?_
     case hy4 => (intro w hSw; (try dsimp only at hSw); obtain ⟨t0, t1, t2, t3⟩ := hSw.all; go_simp; try with_reducible rfl)
     try simp only [Act.put, List.getElem_toArray, List.getElem_cons_zero, List.getElem_cons_succ, List.setIfInBounds_toArray, List.set_cons_zero, List.set_cons_succ]
     refine wpAnyH_take (i := 5) (v := ?_) rfl (by kernel_rfl) (by kernel_rfl) (by kernel_rfl) (fun _ _ _ h => h) (Or.inl ⟨by kernel_rfl, ?hy5⟩) (by assumption) ?_
     case hy5 => (intro w hSw; (try dsimp only at hSw); obtain ⟨t0, t1, t2, t3⟩ := hSw.all; go_simp; try with_reducible rfl)
     try simp only [Act.put, List.getElem_toArray, List.getElem_cons_zero, List.getElem_cons_succ, List.setIfInBounds_toArray, List.set_cons_zero, List.set_cons_succ]
     refine wpAnyH_take (i := 7) (v := ?_) rfl (by kernel_rfl) (by kernel_rfl) (by kernel_rfl) (fun _ _ _ h => h) (Or.inl ⟨by kernel_rfl, ?hy7⟩) (by assumption) ?_
     case hy7 => (intro w hSw; (try dsimp only at hSw); obtain ⟨t0, t1, t2, t3⟩ := hSw.all; go_simp; try with_reducible rfl)
     try simp only [Act.put, List.getElem_toArray, List.getElem_cons_zero, List.getElem_cons_succ, List.setIfInBounds_toArray, List.set_cons_zero, List.set_cons_succ]
     refine wpAnyH_take (i := 8) (v := ?_) rfl (by kernel_rfl) (by kernel_rfl) (by kernel_rfl) (fun _ _ _ h => h) (Or.inl ⟨by kernel_rfl, ?hy8⟩) (by assumption) ?_
     case hy8 => (intro w hSw; (try dsimp only at hSw); obtain ⟨t0, t1, t2, t3⟩ := hSw.all; go_simp; try with_reducible rfl)
     try simp only [Act.put, List.getElem_toArray, List.getElem_cons_zero, List.getElem_cons_succ, List.setIfInBounds_toArray, List.set_cons_zero, List.set_cons_succ]
     refine wpAnyH_take (i := 9) (v := ?_) rfl (by kernel_rfl) (by kernel_rfl) (by kernel_rfl) (fun _ _ _ h => h) (Or.inl ⟨by kernel_rfl, ?hy9⟩) (by assumption) ?_
     case hy9 => (intro w hSw; (try dsimp only at hSw); obtain ⟨t0, t1, t2, t3⟩ := hSw.all; go_simp; try with_reducible rfl)
     try simp only [Act.put, List.getElem_toArray, List.getElem_cons_zero, List.getElem_cons_succ, List.setIfInBounds_toArray, List.set_cons_zero, List.set_cons_succ]
     refine wpAnyH_take (i := 10) (v := ?_) rfl (by kernel_rfl) (by kernel_rfl) (by kernel_rfl) (fun _ _ _ h => h) (Or.inl ⟨by kernel_rfl, ?hy10⟩) (by assumption) ?_
     case hy10 => (intro w hSw; (try dsimp only at hSw); obtain ⟨t0, t1, t2, t3⟩ := hSw.all; go_simp; try with_reducible rfl)
     try simp only [Act.put, List.getElem_toArray, List.getElem_cons_zero, List.getElem_cons_succ, List.setIfInBounds_toArray, List.set_cons_zero, List.set_cons_succ]
     refine wpAnyH_take (i := 11) (v := ?_) rfl (by kernel_rfl) (by kernel_rfl) (by kernel_rfl) (fun _ _ _ h => h) (Or.inl ⟨by kernel_rfl, ?hy11⟩) (by assumption) ?_
     case hy11 => (intro w hSw; (try dsimp only at hSw); obtain ⟨t0, t1, t2, t3⟩ := hSw.all; go_simp; try with_reducible rfl)
     try simp only [Act.put, List.getElem_toArray, List.getElem_cons_zero, List.getElem_cons_succ, List.setIfInBounds_toArray, List.set_cons_zero, List.set_cons_succ]
     refine wpAnyH_take (i := 12) (v := ?_) rfl (by kernel_rfl) (by kernel_rfl) (by kernel_rfl) (fun _ _ _ h => h) (Or.inl ⟨by kernel_rfl, ?hy12⟩) (by assumption) ?_
     case hy12 => (intro w hSw; (try dsimp only at hSw); obtain ⟨t0, t1, t2, t3⟩ := hSw.all; go_simp; try with_reducible rfl)
     try simp only [Act.put, List.getElem_toArray, List.getElem_cons_zero, List.getElem_cons_succ, List.setIfInBounds_toArray, List.set_cons_zero, List.set_cons_succ]
     refine wpAnyH_take (i := 13) (v := ?_) rfl (by kernel_rfl) (by kernel_rfl) (by kernel_rfl) (fun _ _ _ h => h) (Or.inl ⟨by kernel_rfl, ?hy13⟩) (by assumption) ?_
     case hy13 => (intro w hSw; (try dsimp only at hSw); obtain ⟨t0, t1, t2, t3⟩ := hSw.all; go_simp; try with_reducible rfl)
     try simp only [Act.put, List.getElem_toArray, List.getElem_cons_zero, List.getElem_cons_succ, List.setIfInBounds_toArray, List.set_cons_zero, List.set_cons_succ]
     refine wpAnyH_ready (rs := [6]) (by kernel_rfl) (by simp) ?_
     refine AllReadyH.cons rfl (fun K hK => ?_) AllReadyH.nil
     go_simp
     go_wp2_with fail
     refine (row_any (HS3.out.on (Below.refl _ _).drew).cv y hyH).mono ?_
     rintro e u9 ⟨rfl, q, hq9⟩
     have hb9 : Below wr.heap.size wr u9 := by rw [hq9]; exact below_drewN_LibK (Below.refl _ _).drew q
     clear hq9
     refine hK.out _ _ (HX3.out.on hb9) (fun _ => ?_)
     clear hK K hHeld
     have hHeld := HX3.out.on hb9
     refine wpAnyH_take (i := 14) (v := ?_) rfl (by kernel_rfl) (by kernel_rfl) (by kernel_rfl) (fun _ _ _ h => h) (Or.inl ⟨by kernel_rfl, ?hy14⟩) (by assumption) ?_
     case hy14 => (intro w hSw; (try dsimp only at hSw); obtain ⟨t0, t1, t2, t3⟩ := hSw.all; go_simp; try with_reducible rfl)
     try simp only [Act.put, List.getElem_toArray, List.getElem_cons_zero, List.getElem_cons_succ, List.setIfInBounds_toArray, List.set_cons_zero, List.set_cons_succ]
     refine wpAnyH_ready (rs := [15]) (by kernel_rfl) (by simp) ?_
     refine AllReadyH.cons rfl (fun K hK => ?_) AllReadyH.nil
     go_simp
     go_wp2_with fail
     refine (HD.out _ _ X y N (HS3.out.on hb9) hXN hyH hN HFR.out HPT.out).mono ?_
     rintro e u8 ⟨rfl, hS8, hk8⟩
     refine hK.out _ _ (hHeld.kept hk8 hne) (fun _ => ?_)
     clear hK K
     refine wpAnyH_done (by kernel_rfl) ?_ _
     have HS8 := hid (hS8.congr HST.out)
     have HX8 := hid (hHeld.kept hk8 hne)
     have HR8 := hid ((HR3.out.on hb9).kept hk8 (fun i z h => (HS3.out.on hb9).cv.no64 h))
     clear hS8 hk8 hHeld HS3 HX3 HR3
     go_wp2
     go_roundw
     case rel => exact ⟨y + 1, by go_num, by omega, by omega, HS8.out, HR8.out, HX8.out⟩
     case measure => simp [numOf]; omega
    ·have e4 : decide ((y : Int) < (Y : Int) + (M : Int)) = false := decide_eq_false (by omega)
     obtain rfl : y = Y + M := by omega
     have HS9 := hid (HS3.out.congr (rws_end HQ.out (by dsimp only; omega)))
     clear HS3
     go_wp2
     go_roundw
     case rel => exact ⟨j + 1, by go_num, by omega, HS9.out, HR3.out⟩
     case measure => simp [numOf]; omega
  ·have e1 : decide ((j : Int) < m.length) = false := decide_eq_false (by omega)
   obtain rfl : j = m.length := by omega
   have HF : Hid (St_CanD w0 wr p b W H g (fun x y => has (cut (ara W H) r) x y && inC l x y) L) := HS1.out.congr (fun x y => by rw [List.take_length, HP.out.pt])
   clear HS1
   go_wp2
   go_end0
   exact ⟨rfl, HF.out⟩
end
section
variable {w w' w0 : World} {p b W H : Nat} {L : List Int} {g : Int → Int → Int → Int} {d d' : Int → Int → Bool}
theorem trn_eq {W H : Nat} {g : Int → Int → Int → Int} {d d' : Int → Int → Bool} {L : List Int} (hL : L.length = W * H) (h : ∀ x y : Nat, x < W → y < H → ∀ z, L[y * W + x]? = some z → (if d x y then g x y z else z) = (if d' x y then g x y z else z)) : trn W g d L = trn W g d' L :=
 trn_ext hL (by rw [trn_length, hL]) fun x y hx hy => by
  rw [trn_get hx]
  cases e : L[y * W + x]? with
  | none => rfl
  | some z => rw [Option.map_some, Option.map_some, h x y hx hy z e]
theorem adds_zero (x y : Int) (u v : Int) : d u v = adds d x 0 y u v := by
 have : (decide (v = y) && decide (x ≤ u) && decide (u < x + 0)) = false := by
  rw [Bool.eq_false_iff]
  simp only [ne_eq, Bool.and_eq_true, decide_eq_true_eq]
  omega
 rw [adds, this, Bool.or_false]
theorem adds_step (x i y : Nat) (u v : Int) : add1 (adds d x i y) ((x + i : Nat) : Int) y u v = adds d x (i + 1 : Nat) y u v := by
 rw [add1, adds, adds, Bool.or_assoc]
 congr 1
 rw [Bool.eq_iff_iff]
 simp only [Bool.or_eq_true, Bool.and_eq_true, decide_eq_true_eq]
 omega
theorem St_CanD.at_ {x y i n : Nat} (h : St_CanD w0 w p b W H g (adds d x i y) L) (hxn : x + n ≤ W) (hy : y < H) (hi : i < n) (hd : ∀ i : Nat, i < n → d ((x + i : Nat) : Int) y = false) :
  ∃ z, L[y * W + (x + i)]? = some z ∧ Col z ∧ w.cell? ⟨b, y * W + x + i, none⟩ = some (.int .u32 z) ∧ w.frozen? ⟨b, y * W + x + i, none⟩ = false ∧
   ∀ t, t = g ((x + i : Nat) : Int) y z → Col t → St_CanD w0 (w.setCell ⟨b, y * W + x + i, none⟩ (.int .u32 t)) p b W H g (adds d x (i + 1 : Nat) y) L ∧ Kp [b] w (w.setCell ⟨b, y * W + x + i, none⟩ (.int .u32 t)) := by
 have hx : x + i < W := by omega
 obtain ⟨z, hz, hc⟩ := h.cv.at_ hx hy
 have hd' : adds d x i y ((x + i : Nat) : Int) y = false := by
  rw [adds, hd i hi, Bool.false_or, Bool.eq_false_iff]
  simp only [ne_eq, Bool.and_eq_true, decide_eq_true_eq]
  omega
 have hL : L[y * W + (x + i)]? = some z := by
  rw [trn_get hx, hd'] at hz
  cases e : L[y * W + (x + i)]? with
  | none => rw [e] at hz; cases hz
  | some t => rw [e] at hz; simpa using hz
 have ea : y * W + x + i = y * W + (x + i) := by omega
 rw [ea]
 refine ⟨z, hL, hc, h.cv.cell hz, h.cv.fz _, fun t ht htc => ?_⟩
 have hs := h.cv.set (y * W + (x + i)) htc
 rw [ht, trn_set h.len hx hy hL] at hs
 have hk : Kp [b] w (w.setCell ⟨b, y * W + (x + i), none⟩ (.int .u32 t)) := (Kp.refl [b] w).set _ (by simp) _
 rw [ht] at hk ⊢
 exact ⟨(St_CanD.mk hs (h.kp.trans hk (fun k hk _ => hk))).congr (adds_step x i y), hk⟩
theorem fill1_any (v : Int) (hv : Col v) (q : Nat) (hq : w0.cell? ⟨q, 0, none⟩ = some (.int .u32 v)) (hne : q ≠ b) (P : Int → Int → Bool) : Does 64 #[.pointer (some ⟨q, 0, none⟩)] w0 p b W H (fun _ _ _ => v) P L := by
 intro d u x y n hS hxn hy hn hd _
 have HS := hid hS
 have HQ := hid hq
 have HD := hid hd
 have hW := hS.cv.hW
 have hH := hS.cv.hH
 obtain ⟨o, ho⟩ : ∃ o, y * W + x = o := ⟨_, rfl⟩
 rw [ho]
 clear hS hq hd
 show Calls Tryz.prog 64 #[.int .i64 (x : Nat), .int .i64 (y : Nat), .slice (some ⟨b, o, none⟩) n (W - x), .pointer (some ⟨q, 0, none⟩)] u _
 go_enter Tryz.func64, Tryz.ntmps64
 go_wp2
 go_loopw [10] (fun c wr => ∃ i : Nat, c = .int .i64 i ∧ i ≤ n ∧ St_CanD w0 wr p b W H (fun _ _ _ => v) (adds d x i y) L ∧ Kp [b] u wr) (fun c _ => n - (numOf c).toNat)
 case atStart => exact ⟨0, rfl, Nat.zero_le _, HS.out.congr (adds_zero x y), Kp.refl _ _⟩
 case round =>
  obtain ⟨i, rfl, hi, hS, hk⟩ := hrel
  have HS1 := hid hS
  have HK := hid hk
  by_cases hgo : i < n
  ·have e1 : decide ((i : Int) < n) = true := decide_eq_true (by omega)
   have e2 : (i : Int) < n := by omega
   obtain ⟨z, _, _, c0, fz, hput⟩ := hS.at_ hxn hy hgo HD.out
   have HP := hid (hput v rfl hv)
   have cq := hS.kp.cell HQ.out (by simpa using hne)
   rw [ho] at c0 fz HP
   clear hS hk hput
   go_wp2
   go_roundw
   case rel => exact ⟨i + 1, by go_num, by omega, HP.out.1, HK.out.trans HP.out.2 (fun k hk _ => hk)⟩
   case measure => simp [numOf]; omega
  ·have e1 : decide ((i : Int) < n) = false := decide_eq_false (by omega)
   obtain rfl : i = n := by omega
   clear hS hk
   go_wp2
   go_end0
   exact ⟨rfl, HS1.out, HK.out⟩
theorem ara_ck (hW : 1 ≤ W ∧ W ≤ 48) (hH : 1 ≤ H ∧ H ≤ 48) : Ck (ara W H) := ⟨by simp only [ara]; omega, by simp only [ara]; omega, by simp only [ara]; omega, by simp only [ara]; omega, by simp only [ara]; omega, by simp only [ara]; omega⟩
def fll (W : Nat) (v : Int) (l : List Rc) (L : List Int) : List Int := trn W (fun _ _ _ => v) (inC l) L
theorem cfill_any (h : Cv 91 w p b W H L) (v : Int) (hv : Col v) (a : Option Addr) (n c : Nat) (l : List Rc) (hr : RdC w a n c l) (hn : n ≤ 40) :
  Calls Tryz.prog 36 #[.pointer (some ⟨p, 0, none⟩), .int .u32 v, .slice a n c] w fun e w' => e = .returned (.tuple #[]) ∧ Cv 91 w' p b W H (fll W v l L) ∧ Kp [b] w w' := by
 have hlt := h.lt
 have hk := ara_ck h.hW h.hH
 have HB : Hid (Below w.heap.size w (w.alloc (.cells #[.int .u32 v] 55))) := below_new w _
 have HC := hid (h.on HB.out)
 have HR := hid (hr.on HB.out)
 have HQ : Hid ((w.alloc (.cells #[.int .u32 v] 55)).cell? ⟨w.heap.size, 0, none⟩ = some (.int .u32 v)) := by
  rw [Hid, World.cell?_alloc_mark]
  rfl
 have hl := h.len
 have HLE : Hid (trn W (fun _ _ _ => v) (fun _ _ => false) L = L) := trn_none hl (fun _ _ _ _ => rfl)
 have HEQ : Hid (trn W (fun _ _ _ => v) (fun x y => has (cut (ara W H) (ara W H)) x y && inC l x y) L = fll W v l L) := by
  refine trn_congr hl fun x y hx hy => ?_
  rw [cut_self hk, has_ara h.hW.1 h.hH.1]
  have e1 : decide ((0 : Int) ≤ (x : Nat)) = true := decide_eq_true (by omega)
  have e2 : decide (((x : Nat) : Int) < W) = true := decide_eq_true (by omega)
  have e3 : decide ((0 : Int) ≤ (y : Nat)) = true := decide_eq_true (by omega)
  have e4 : decide (((y : Nat) : Int) < H) = true := decide_eq_true (by omega)
  rw [e1, e2, e3, e4]
  rfl
 have hmf : ∀ (fn : Fn) (first cap : Array Value) (w : World), (Instr.makeFunc fn first cap).run Tryz.prog w = .ok (.func fn first cap) w := fun _ _ _ _ => rfl
 clear h hr hl
 go_enter Tryz.func36, Tryz.ntmps36
 go_wp2_with fail
 obtain ⟨U, HU⟩ : ∃ U, Hid (U = w.alloc (.cells #[.int .u32 v] 55)) := ⟨_, rfl⟩
 rw [← HU.out] at HB HC HR HQ
 rw [← HU.out]
 clear HU
 refine (carea_any HC.out).mono ?_
 rintro e u1 ⟨rfl, hb1⟩
 have HB1 := hid (Below.on HB.out hb1)
 have HC1 := hid (HC.out.on hb1)
 have HR1 := hid (HR.out.on hb1)
 have HQ1 : Hid (u1.cell? ⟨w.heap.size, 0, none⟩ = some (.int .u32 v)) := (kp_of_below hb1 []).cell HQ.out (by simp)
 clear hb1 HC HR HQ HB
 go_wp2_with fail
 have hS : St_CanD u1 u1 p b W H (fun _ _ _ => v) (fun _ _ => false) L := ⟨by rw [HLE.out]; exact HC1.out, Kp.refl _ _⟩
 refine (each_any 64 #[.pointer (some ⟨w.heap.size, 0, none⟩)] (enters_of Tryz.func64 (by kernel_rfl) rfl) hS (ara W H) (fill1_any v hv w.heap.size HQ1.out (by omega) _) hk.ok (by rw [cut_self hk]; exact may_of (.inr hk)) (by rw [cut_self hk]; exact hk.ok) a n c l HR1.out hn (by rw [cut_self hk]; exact fun _ _ h => h)).mono ?_
 rintro e u2 ⟨rfl, hS2⟩
 have HC2 := hS2.cv
 rw [HEQ.out] at HC2
 have HK : Kp [b] w u2 := (kp_of_below HB1.out [b]).trans hS2.kp (fun k hk _ => hk)
 go_wp2
 go_end0
 exact ⟨rfl, HC2, HK⟩
end
end Go.Proofs.YtpbgbpcdohdecaaGreatDoor
