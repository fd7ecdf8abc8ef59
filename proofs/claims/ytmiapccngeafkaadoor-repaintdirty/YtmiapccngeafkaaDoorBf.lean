/- The contracts of the program's each, and of Fill. -/
import Derived.Test.YtmiapccngeafkaaDoorBe
import Derived.Test.YtmiapccngeafkaaDoorBa
import Derived.Test.YtmiapccngeafkaaDoorChecked
import Derived.BigQuiet
import Derived.LoopN
import Derived.Deep.RegionHeldLaw
import Derived.Test.YtmiapccngeafkaaDoorBb
namespace Go.Proofs.YtmiapccngeafkaaDoor
open Go Go.RowKit

variable {w w' w0 : World} {p b W H : Nat} {L : List Int} {g : Int → Int → Int → Int} {d d' : Int → Int → Bool}

/-- A canvas whose points d are turned by g; nothing else of w0 is turned. -/
structure St (w0 w : World) (p b W H : Nat) (g : Int → Int → Int → Int) (d : Int → Int → Bool) (L : List Int) : Prop where
  cv : Cv 56 w p b W H (trn W g d L)
  kp : Kp [b] w0 w

theorem St.on (h : St w0 w p b W H g d L) (hb : Below w.heap.size w w') : St w0 w' p b W H g d L :=
  ⟨h.cv.on hb, h.kp.trans (kp_of_below hb []) (by simp)⟩
theorem St.congr (h : St w0 w p b W H g d L) (e : ∀ x y, d x y = d' x y) : St w0 w p b W H g d' L := by
  rw [show d' = d from funext fun x => funext fun y => (e x y).symm]
  exact h
theorem St.len (h : St w0 w p b W H g d L) : L.length = W * H := by
  have := h.cv.len
  rwa [trn_length] at this

/-- The points of d, and n of the line y from x on. -/
def adds (d : Int → Int → Bool) (x n y : Int) (u v : Int) : Bool := d u v || (decide (v = y) && decide (x ≤ u) && decide (u < x + n))

theorem Cv.no64 {ty : Nat} (h : Cv ty w p b W H L) {i : Nat} {z : Int} (hc : w.cell? ⟨b, i, none⟩ = some (.int .i64 z)) : False := by
  rcases h.row.2 with ⟨e0, _⟩ | ⟨g', cap, cur, e0, _, hg, _, _, hcs, ht⟩
  · cases e0
  · cases e0
    have hi : i < W * H := by
      rw [Lib.cell_of_heap hg] at hc
      have := (Array.getElem?_eq_some_iff.1 hc).1
      omega
    have hl := h.len
    rw [h.cell (List.getElem?_eq_getElem (by omega))] at hc
    cases hc

theorem RdC.kept {a : Option Addr} {n c : Nat} {l : List Rc} (h : RdC w a n c l) (hk : Kp [b] w w') (hn : ∀ i z, w.cell? ⟨b, i, none⟩ ≠ some (.int .i64 z)) : RdC w' a n c l :=
  ⟨h.len, h.le, h.max, h.hnil, fun h0 => by
    obtain ⟨b', off, e, h1, h2⟩ := h.pl h0
    refine ⟨b', off, e, Nat.lt_of_lt_of_le h1 hk.size, fun j r hj => ?_⟩
    have he := h2 j r hj
    have hne : b' ∉ [b] := by
      simp only [List.mem_cons, List.not_mem_nil, or_false]
      rintro rfl
      exact hn _ _ he.c0
    exact ⟨Nat.lt_of_lt_of_le he.lt hk.size, hk.cell he.c0 hne, hk.cell he.c1 hne, hk.cell he.c2 hne, hk.cell he.c3 hne⟩, h.ok⟩
theorem Bx.kept {q : Nat} {r : Rc} (h : Bx w q r) (hk : Kp [b] w w') (hn : q ≠ b) : Bx w' q r := ⟨hk.var h.obj (by simp [hn])⟩

/-- What a function that is handed the pieces does: it turns their points by g. -/
def Does (k : Nat) (cap : Array Value) (w0 : World) (p b W H : Nat) (g : Int → Int → Int → Int) (P : Int → Int → Bool) (L : List Int) : Prop :=
  ∀ (d : Int → Int → Bool) (u : World) (x y n : Nat), St w0 u p b W H g d L → x + n ≤ W → y < H → 1 ≤ n → (∀ i : Nat, i < n → d ((x + i : Nat) : Int) y = false) → (∀ i : Nat, i < n → P ((x + i : Nat) : Int) y = true) →
    Calls Tryd.prog k (#[.int .i64 (x : Nat), .int .i64 (y : Nat), .slice (some ⟨b, y * W + x, none⟩) n (W - x)] ++ cap) u fun e w' => e = .returned (.tuple #[]) ∧ St w0 w' p b W H g (adds d x n y) L ∧ Kp [b] u w'

/-- A rectangle of a region within the canvas, in numbers. -/
theorem inside {m : List Rc} {W H : Nat} (hm : Reg m) (hin : ∀ x y, pt m x y = true → has (ara W H) x y = true) (hW : 1 ≤ W) (hH : 1 ≤ H) {r : Rc} (hr : r ∈ m) : ∃ X Y N M : Nat, r = ⟨X, Y, N, M⟩ ∧ 1 ≤ N ∧ 1 ≤ M ∧ X + N ≤ W ∧ Y + M ≤ H := by
  have k := hm.ck r hr
  have q : ∀ x y, has r x y = true → (0 ≤ x ∧ x < W) ∧ 0 ≤ y ∧ y < H := fun x y h => by
    have h2 := hin x y (pt_iff.2 ⟨r, hr, h⟩)
    rw [has_ara hW hH] at h2
    simpa only [Bool.and_eq_true, decide_eq_true_eq] using h2
  have h1 := q r.x r.y (by rw [has_iff]; have := k.w; have := k.h; omega)
  have h2 := q (r.x + r.w - 1) (r.y + r.h - 1) (by rw [has_iff]; have := k.w; have := k.h; omega)
  have kw := k.w
  have kh := k.h
  obtain ⟨x, y, ww, hh⟩ := r
  dsimp only at *
  obtain ⟨X, rfl⟩ := Int.eq_ofNat_of_zero_le (show 0 ≤ x by omega)
  obtain ⟨Y, rfl⟩ := Int.eq_ofNat_of_zero_le (show 0 ≤ y by omega)
  obtain ⟨N, rfl⟩ := Int.eq_ofNat_of_zero_le (show 0 ≤ ww by omega)
  obtain ⟨M, rfl⟩ := Int.eq_ofNat_of_zero_le (show 0 ≤ hh by omega)
  exact ⟨X, Y, N, M, rfl, by omega, by omega, by omega, by omega⟩

/-- The points of the rectangles ahead of j, and t lines of r. -/
def rws (m : List Rc) (j : Nat) (r : Rc) (t : Nat) (x y : Int) : Bool := pt (m.take j) x y || (has r x y && decide (y < r.y + t))

theorem rws_start {m : List Rc} {j : Nat} {r : Rc} (x y : Int) : pt (m.take j) x y = rws m j r 0 x y := by
  have : (has r x y && decide (y < r.y + (0 : Nat))) = false := by
    cases h : has r x y
    · rfl
    · have := has_iff.1 h
      simp
      omega
  rw [rws, this, Bool.or_false]
theorem rws_end {m : List Rc} {j : Nat} {r : Rc} {t : Nat} (hj : m[j]? = some r) (ht : r.h = t) (x y : Int) : rws m j r t x y = pt (m.take (j + 1)) x y := by
  have : (has r x y && decide (y < r.y + (t : Nat))) = has r x y := by
    cases h : has r x y
    · rfl
    · have := has_iff.1 h
      simp
      omega
  rw [rws, this, List.take_add_one, hj, pt_append]
  simp [pt]
theorem rws_step {m : List Rc} {j t X Y N M : Nat} (ht : t < M) (x y : Int) : adds (rws m j ⟨X, Y, N, M⟩ t) X N ((Y + t : Nat) : Int) x y = rws m j ⟨X, Y, N, M⟩ (t + 1) x y := by
  rw [adds, rws, rws, Bool.or_assoc]
  congr 1
  rw [Bool.eq_iff_iff]
  simp only [Bool.or_eq_true, Bool.and_eq_true, decide_eq_true_eq, has_iff]
  omega
theorem rws_free {m : List Rc} {j t : Nat} {r : Rc} (hm : Reg m) (hj : m[j]? = some r) {x y : Int} (hx : r.x ≤ x ∧ x < r.x + r.w) (_hy : r.y ≤ y ∧ y < r.y + r.h) (ht : r.y + t ≤ y) : rws m j r t x y = false := by
  rw [rws, Bool.or_eq_false_iff]
  refine ⟨pt_no.2 fun q hq => ?_, ?_⟩
  · obtain ⟨i, hi⟩ := List.getElem?_of_mem hq
    have hij : i < j := by
      rcases Nat.lt_or_ge i j with h' | h'
      · exact h'
      · rw [List.getElem?_take_eq_none h'] at hi
        cases hi
    rw [List.getElem?_take_of_lt hij] at hi
    obtain ⟨l1, e1⟩ := List.getElem?_eq_some_iff.1 hi
    obtain ⟨l2, e2⟩ := List.getElem?_eq_some_iff.1 hj
    have ha := List.pairwise_iff_getElem.1 hm.aft i j l1 l2 hij
    rw [e1, e2] at ha
    cases h : has q x y
    · rfl
    · have h' := has_iff.1 h
      rcases ha with ha | ha <;> omega
  · have : decide (y < r.y + t) = false := decide_eq_false (by omega)
    rw [this, Bool.and_false]

set_option maxRecDepth 100000 in
set_option maxHeartbeats 8000000 in
theorem each_any (k : Nat) (cap : Array Value) (eg : ∀ args w, (callFunc k args).run Tryd.prog w = .ok (.enter k args) w) (hS : St w0 w p b W H g (fun _ _ => false) L) (r : Rc) (hD : Does k cap w0 p b W H g (has (cut (ara W H) r)) L)
    (ok : r.Ok) (hmay : may (cut (ara W H) r) = true) (okc : (cut (ara W H) r).Ok) (a : Option Addr) (n c : Nat) (l : List Rc) (hr : RdC w a n c l) (hn : n ≤ 40)
    (hin : ∀ x y, has (cut (ara W H) r) x y = true → has (ara W H) x y = true) :
    Calls Tryd.prog 32 #[.pointer (some ⟨p, 0, none⟩), .agg #[.int .i64 r.x, .int .i64 r.y, .int .i64 r.w, .int .i64 r.h], .slice a n c, .func (.func k) #[] cap] w fun e w' => e = .returned (.tuple #[]) ∧ St w0 w' p b W H g (fun x y => has (cut (ara W H) r) x y && inC l x y) L := by
  have hWH := And.intro hS.cv.hW hS.cv.hH
  have HB := hid (below_new w (ob r))
  have HX := hid (bx_new w r)
  rw [ob] at HB
  have HR := hid (hr.on HB.out)
  have HS := hid (hS.on HB.out)
  have HD := hid hD
  have aok := ara_ok hS.cv
  have CC := hid (fun u => cut_any (ara W H) r aok ok u)
  have CP := hid (fun u (hu : RdC u a n c l) => parts_any (cut (ara W H) r) hmay okc 40 a n c l u hn hu hn)
  clear hr hS hD
  go_enter Tryd.func32, Tryd.ntmps32
  go_wp2
  obtain ⟨U, HU⟩ : ∃ U, Hid (U = w.alloc (.cells #[.int .i64 r.x, .int .i64 r.y, .int .i64 r.w, .int .i64 r.h] 24)) := ⟨_, rfl⟩
  rw [← HU.out] at HX HB HR HS
  rw [← HU.out]
  clear HU
  refine wp_region_held_drew (S := fun x => Below U.heap.size U x) (by kernel_rfl) ?hh (fun hHeld => ?_)
  case hh => exact ((Below.refl _ _).drew)
  refine wpAnyH_take (i := 0) (v := ?_) rfl (by kernel_rfl) (by kernel_rfl) (by kernel_rfl) (fun _ _ _ h => h) (Or.inl ⟨by kernel_rfl, ?hy0⟩) (by assumption) ?_
  case hy0 => (intro w hSw; (try dsimp only at hSw); obtain ⟨t0, t1, t2, t3⟩ := (HX.out.on hSw).all; go_simp; try with_reducible rfl)
  try simp only [Act.put, List.getElem_toArray, List.getElem_cons_zero, List.setIfInBounds_toArray, List.set_cons_zero, List.set_cons_succ]
  refine wpAnyH_take (i := 2) (v := ?_) rfl (by kernel_rfl) (by kernel_rfl) (by kernel_rfl) (fun _ _ _ h => h) (Or.inl ⟨by kernel_rfl, ?hy2⟩) (by assumption) ?_
  case hy2 => (intro w hSw; (try dsimp only at hSw); obtain ⟨t0, t1, t2, t3⟩ := (HX.out.on hSw).all; go_simp; try with_reducible rfl)
  try simp only [Act.put, List.getElem_toArray, List.getElem_cons_zero, List.getElem_cons_succ, List.setIfInBounds_toArray, List.set_cons_zero, List.set_cons_succ]
  refine wpAnyH_take (i := 4) (v := ?_) rfl (by kernel_rfl) (by kernel_rfl) (by kernel_rfl) (fun _ _ _ h => h) (Or.inl ⟨by kernel_rfl, ?hy4⟩) (by assumption) ?_
  case hy4 => (intro w hSw; (try dsimp only at hSw); obtain ⟨t0, t1, t2, t3⟩ := (HX.out.on hSw).all; go_simp; try with_reducible rfl)
  try simp only [Act.put, List.getElem_toArray, List.getElem_cons_zero, List.getElem_cons_succ, List.setIfInBounds_toArray, List.set_cons_zero, List.set_cons_succ]
  refine wpAnyH_take (i := 7) (v := ?_) rfl (by kernel_rfl) (by kernel_rfl) (by kernel_rfl) (fun _ _ _ h => h) (Or.inl ⟨by kernel_rfl, ?hy7⟩) (by assumption) ?_
  case hy7 => (intro w hSw; (try dsimp only at hSw); obtain ⟨t0, t1, t2, t3⟩ := (HX.out.on hSw).all; go_simp; try with_reducible rfl)
  try simp only [Act.put, List.getElem_toArray, List.getElem_cons_zero, List.getElem_cons_succ, List.setIfInBounds_toArray, List.set_cons_zero, List.set_cons_succ]
  refine wpAnyH_ready (rs := [1]) (by kernel_rfl) (by simp) ?_
  refine AllReadyH.cons rfl (fun K hK => ?_) AllReadyH.nil
  go_simp
  go_wp2_with fail
  refine (thn (carea_any (HS.out.on hHeld).cv) hHeld).mono ?_
  rintro e u201 ⟨rfl, hS1⟩
  refine hK.out _ _ hS1 (fun _ => ?_)
  clear hK K hHeld
  have hHeld := hS1
  clear hS1
  refine wpAnyH_ready (rs := [3]) (by kernel_rfl) (by simp) ?_
  refine AllReadyH.cons rfl (fun K hK => ?_) AllReadyH.nil
  go_simp
  go_wp2_with fail
  refine (thn (CC.out _) hHeld).mono ?_
  rintro e u203 ⟨rfl, hS3⟩
  refine hK.out _ _ hS3 (fun _ => ?_)
  clear hK K hHeld
  have hHeld := hS3
  clear hS3
  refine wpAnyH_ready (rs := [5]) (by kernel_rfl) (by simp) ?_
  refine AllReadyH.cons rfl (fun K hK => ?_) AllReadyH.nil
  go_simp
  go_wp2_with fail
  refine (CP.out _ (HR.out.on hHeld)).mono ?_
  rintro e u9 ⟨m, hP, a9, c9, rfl, hR, hb⟩
  have hB9 := Below.on hHeld hb
  refine hK.out _ _ hB9 (fun _ => ?_)
  clear hK K hHeld hb
  have hHeld := hB9
  refine wpAnyH_take (i := 6) (v := ?_) rfl (by kernel_rfl) (by kernel_rfl) (by kernel_rfl) (fun _ _ _ h => h) (Or.inl ⟨by kernel_rfl, ?hy6⟩) (by assumption) ?_
  case hy6 => (intro w hSw; (try dsimp only at hSw); obtain ⟨t0, t1, t2, t3⟩ := (HX.out.on hSw).all; go_simp; try with_reducible rfl)
  try simp only [Act.put, List.getElem_toArray, List.getElem_cons_zero, List.getElem_cons_succ, List.setIfInBounds_toArray, List.set_cons_zero, List.set_cons_succ]
  refine wpAnyH_done (by kernel_rfl) ?_ _
  have HS9 := hid (HS.out.on hB9)
  have HR9 := hid hR
  have HP := hid hP
  have hsm := hR.small
  have HI : Hid (∀ x y, pt m x y = true → has (ara W H) x y = true) := fun x y h => by
    rw [hP.pt, Bool.and_eq_true] at h
    exact hin x y h.1
  clear hR hP hB9 hHeld HX HB HR HS CC CP hin okc hmay ok aok
  go_wp2
  go_loopw [18] (fun i wr => ∃ j : Nat, i = .int .i64 j ∧ j ≤ m.length ∧ St w0 wr p b W H g (pt (m.take j)) L ∧ RdC wr a9 m.length c9 m) (fun i _ => m.length - (numOf i).toNat)
  case atStart => exact ⟨0, rfl, Nat.zero_le _, HS9.out.congr (fun x y => by rw [List.take_zero, pt_nil]), HR9.out⟩
  case round =>
    obtain ⟨j, rfl, hj, hS1, hR1⟩ := hrel
    have HS1 := hid hS1
    have HR1 := hid hR1
    clear hS1 hR1 HS9 HR9
    by_cases hgo : j < m.length
    · have e1 : decide ((j : Int) < m.length) = true := decide_eq_true (by omega)
      have e3 : (j : Int) < m.length := by omega
      obtain ⟨b9, off9, q, rfl, _, hq, _, he⟩ := HR1.out.el hgo
      obtain ⟨X, Y, N, M, rfl, hN, hM, hXN, hYM⟩ := inside HP.out.gd.reg HI.out hWH.1.1 hWH.2.1 (List.mem_of_getElem? hq)
      obtain ⟨_, c0, c1, c2, c3⟩ := he
      have HQ := hid hq
      have HB2 := hid (below_new wr (ob ⟨X, Y, N, M⟩))
      have HX2 := hid (bx_new wr ⟨X, Y, N, M⟩)
      rw [ob] at HB2
      have HS2 := hid ((HS1.out.on HB2.out).congr (rws_start (r := ⟨X, Y, N, M⟩)))
      have HR2 := hid (HR1.out.on HB2.out)
      have hne : wr.heap.size ≠ b := by have := HS1.out.cv.lt.2; omega
      clear hq HB2 HS1 HR1
      go_wp2
      obtain ⟨Z, HZ⟩ : ∃ Z, Hid (Z = wr.alloc (.cells #[.int .i64 (X : Nat), .int .i64 (Y : Nat), .int .i64 (N : Nat), .int .i64 (M : Nat)] 24)) := ⟨_, rfl⟩
      rw [← HZ.out] at HX2 HS2 HR2
      try rw [← HZ.out]
      clear HZ
      obtain ⟨B, hB⟩ : ∃ B, wr.heap.size = B := ⟨_, rfl⟩
      rw [hB] at HX2 hne
      rw [hB]
      clear c0 c1 c2 c3 hB
      go_loopw [10] (fun v wr2 => ∃ y : Nat, v = .int .i64 y ∧ Y ≤ y ∧ y ≤ Y + M ∧ St w0 wr2 p b W H g (rws m j ⟨X, Y, N, M⟩ (y - Y)) L ∧ RdC wr2 (some ⟨b9, off9, none⟩) m.length c9 m ∧ Bx wr2 B ⟨X, Y, N, M⟩) (fun v _ => Y + M - (numOf v).toNat)
      case atStart => exact ⟨Y, rfl, Nat.le_refl _, by omega, by rw [Nat.sub_self]; exact HS2.out, HR2.out, HX2.out⟩
      case round =>
        obtain ⟨y, rfl, hy1, hy2, hS3, hR3, hX3⟩ := hrel
        have HS3 := hid hS3
        have HR3 := hid hR3
        have HX3 := hid hX3
        obtain ⟨t0, t1, t2, t3⟩ := hX3.all
        dsimp only at t0 t1 t2 t3
        clear hS3 hR3 hX3 HS2 HR2 HX2
        by_cases hgo2 : y < Y + M
        · have e4 : decide ((y : Int) < (Y : Int) + (M : Int)) = true := decide_eq_true (by omega)
          obtain ⟨E, hE⟩ : ∃ E, X + N = E := ⟨_, rfl⟩
          have e5 : E ≤ W := by omega
          have e7 : IntKind.i64.wrap ((X : Int) + (N : Int)) = (E : Int) := by
            rw [IntKind.wrap_i64]
            omega
          have e8 : X ≤ E := by omega
          have e9 : E - X = N := by omega
          clear hE
          have e6 : ¬ W = X := by omega
          have hyH : y < H := by omega
          have HFR : Hid (∀ i : Nat, i < N → rws m j ⟨X, Y, N, M⟩ (y - Y) ((X + i : Nat) : Int) y = false) := fun i hi => rws_free HP.out.gd.reg HQ.out (by dsimp only; omega) (by dsimp only; omega) (by dsimp only; omega)
          have HPT : Hid (∀ i : Nat, i < N → has (cut (ara W H) r) ((X + i : Nat) : Int) y = true) := fun i hi => by
            have h1 : pt m ((X + i : Nat) : Int) y = true := pt_iff.2 ⟨_, List.mem_of_getElem? HQ.out, has_iff.2 (by dsimp only; omega)⟩
            rw [HP.out.pt, Bool.and_eq_true] at h1
            exact h1.1
          have HST : Hid (∀ u v, adds (rws m j ⟨X, Y, N, M⟩ (y - Y)) X N y u v = rws m j ⟨X, Y, N, M⟩ (y + 1 - Y) u v) := fun u v => by
            have := rws_step (m := m) (j := j) (t := y - Y) (X := X) (Y := Y) (N := N) (M := M) (by omega) u v
            rw [show Y + (y - Y) = y by omega, show y - Y + 1 = y + 1 - Y by omega] at this
            exact this
          go_wp2
          refine wp_region_held_drew (S := fun x => Bx x B ⟨X, Y, N, M⟩) (by kernel_rfl) ?hh (fun hHeld => ?_)
          case hh => exact (HX3.out.drew)
          refine wpAnyH_take (i := 0) (v := ?_) rfl (by kernel_rfl) (by kernel_rfl) (by kernel_rfl) (fun _ _ _ h => h) (Or.inl ⟨by kernel_rfl, ?hy0⟩) (by assumption) ?_
          case hy0 => (intro w hSw; (try dsimp only at hSw); obtain ⟨t0, t1, t2, t3⟩ := hSw.all; go_simp; try with_reducible rfl)
          try simp only [Act.put, List.getElem_toArray, List.getElem_cons_zero, List.setIfInBounds_toArray, List.set_cons_zero, List.set_cons_succ]
          refine wpAnyH_take (i := 1) (v := ?_) rfl (by kernel_rfl) (by kernel_rfl) (by kernel_rfl) (fun _ _ _ h => h) (Or.inl ⟨by kernel_rfl, ?hy1⟩) (by assumption) ?_
          case hy1 => (intro w hSw; (try dsimp only at hSw); obtain ⟨t0, t1, t2, t3⟩ := hSw.all; go_simp; try with_reducible rfl)
          try simp only [Act.put, List.getElem_toArray, List.getElem_cons_zero, List.getElem_cons_succ, List.setIfInBounds_toArray, List.set_cons_zero, List.set_cons_succ]
          refine wpAnyH_take (i := 2) (v := ?_) rfl (by kernel_rfl) (by kernel_rfl) (by kernel_rfl) (fun _ _ _ h => h) (Or.inl ⟨by kernel_rfl, ?hy2⟩) (by assumption) ?_
          case hy2 => (intro w hSw; (try dsimp only at hSw); obtain ⟨t0, t1, t2, t3⟩ := hSw.all; go_simp; try with_reducible rfl)
          try simp only [Act.put, List.getElem_toArray, List.getElem_cons_zero, List.getElem_cons_succ, List.setIfInBounds_toArray, List.set_cons_zero, List.set_cons_succ]
          refine wpAnyH_take (i := 3) (v := ?_) rfl (by kernel_rfl) (by kernel_rfl) (by kernel_rfl) (fun _ _ _ h => h) (Or.inl ⟨by kernel_rfl, ?hy3⟩) (by assumption) ?_
          case hy3 => (intro w hSw; (try dsimp only at hSw); obtain ⟨t0, t1, t2, t3⟩ := hSw.all; go_simp; try with_reducible rfl)
          try simp only [Act.put, List.getElem_toArray, List.getElem_cons_zero, List.getElem_cons_succ, List.setIfInBounds_toArray, List.set_cons_zero, List.set_cons_succ]
          refine wpAnyH_take (i := 4) (v := ?_) rfl (by kernel_rfl) (by kernel_rfl) (by kernel_rfl) (fun _ _ _ h => h) (Or.inl ⟨by kernel_rfl, ?hy4⟩) (by assumption) ?_
          case hy4 => (intro w hSw; (try dsimp only at hSw); obtain ⟨t0, t1, t2, t3⟩ := hSw.all; go_simp; try with_reducible rfl)
          try simp only [Act.put, List.getElem_toArray, List.getElem_cons_zero, List.getElem_cons_succ, List.setIfInBounds_toArray, List.set_cons_zero, List.set_cons_succ]
          refine wpAnyH_take (i := 5) (v := ?_) rfl (by kernel_rfl) (by kernel_rfl) (by kernel_rfl) (fun _ _ _ h => h) (Or.inl ⟨by kernel_rfl, ?hy5⟩) (by assumption) ?_
          case hy5 => (intro w hSw; (try dsimp only at hSw); obtain ⟨t0, t1, t2, t3⟩ := hSw.all; go_simp; try with_reducible rfl)
          try simp only [Act.put, List.getElem_toArray, List.getElem_cons_zero, List.getElem_cons_succ, List.setIfInBounds_toArray, List.set_cons_zero, List.set_cons_succ]
          refine wpAnyH_take (i := 7) (v := ?_) rfl (by kernel_rfl) (by kernel_rfl) (by kernel_rfl) (fun _ _ _ h => h) (Or.inl ⟨by kernel_rfl, ?hy7⟩) (by assumption) ?_
          case hy7 => (intro w hSw; (try dsimp only at hSw); obtain ⟨t0, t1, t2, t3⟩ := hSw.all; go_simp; try with_reducible rfl)
          try simp only [Act.put, List.getElem_toArray, List.getElem_cons_zero, List.getElem_cons_succ, List.setIfInBounds_toArray, List.set_cons_zero, List.set_cons_succ]
          refine wpAnyH_take (i := 8) (v := ?_) rfl (by kernel_rfl) (by kernel_rfl) (by kernel_rfl) (fun _ _ _ h => h) (Or.inl ⟨by kernel_rfl, ?hy8⟩) (by assumption) ?_
          case hy8 => (intro w hSw; (try dsimp only at hSw); obtain ⟨t0, t1, t2, t3⟩ := hSw.all; go_simp; try with_reducible rfl)
          try simp only [Act.put, List.getElem_toArray, List.getElem_cons_zero, List.getElem_cons_succ, List.setIfInBounds_toArray, List.set_cons_zero, List.set_cons_succ]
          refine wpAnyH_take (i := 9) (v := ?_) rfl (by kernel_rfl) (by kernel_rfl) (by kernel_rfl) (fun _ _ _ h => h) (Or.inl ⟨by kernel_rfl, ?hy9⟩) (by assumption) ?_
          case hy9 => (intro w hSw; (try dsimp only at hSw); obtain ⟨t0, t1, t2, t3⟩ := hSw.all; go_simp; try with_reducible rfl)
          try simp only [Act.put, List.getElem_toArray, List.getElem_cons_zero, List.getElem_cons_succ, List.setIfInBounds_toArray, List.set_cons_zero, List.set_cons_succ]
          refine wpAnyH_take (i := 10) (v := ?_) rfl (by kernel_rfl) (by kernel_rfl) (by kernel_rfl) (fun _ _ _ h => h) (Or.inl ⟨by kernel_rfl, ?hy10⟩) (by assumption) ?_
          case hy10 => (intro w hSw; (try dsimp only at hSw); obtain ⟨t0, t1, t2, t3⟩ := hSw.all; go_simp; try with_reducible rfl)
          try simp only [Act.put, List.getElem_toArray, List.getElem_cons_zero, List.getElem_cons_succ, List.setIfInBounds_toArray, List.set_cons_zero, List.set_cons_succ]
          refine wpAnyH_take (i := 11) (v := ?_) rfl (by kernel_rfl) (by kernel_rfl) (by kernel_rfl) (fun _ _ _ h => h) (Or.inl ⟨by kernel_rfl, ?hy11⟩) (by assumption) ?_
          case hy11 => (intro w hSw; (try dsimp only at hSw); obtain ⟨t0, t1, t2, t3⟩ := hSw.all; go_simp; try with_reducible rfl)
          try simp only [Act.put, List.getElem_toArray, List.getElem_cons_zero, List.getElem_cons_succ, List.setIfInBounds_toArray, List.set_cons_zero, List.set_cons_succ]
          refine wpAnyH_take (i := 12) (v := ?_) rfl (by kernel_rfl) (by kernel_rfl) (by kernel_rfl) (fun _ _ _ h => h) (Or.inl ⟨by kernel_rfl, ?hy12⟩) (by assumption) ?_
          case hy12 => (intro w hSw; (try dsimp only at hSw); obtain ⟨t0, t1, t2, t3⟩ := hSw.all; go_simp; try with_reducible rfl)
          try simp only [Act.put, List.getElem_toArray, List.getElem_cons_zero, List.getElem_cons_succ, List.setIfInBounds_toArray, List.set_cons_zero, List.set_cons_succ]
          refine wpAnyH_take (i := 13) (v := ?_) rfl (by kernel_rfl) (by kernel_rfl) (by kernel_rfl) (fun _ _ _ h => h) (Or.inl ⟨by kernel_rfl, ?hy13⟩) (by assumption) ?_
          case hy13 => (intro w hSw; (try dsimp only at hSw); obtain ⟨t0, t1, t2, t3⟩ := hSw.all; go_simp; try with_reducible rfl)
          try simp only [Act.put, List.getElem_toArray, List.getElem_cons_zero, List.getElem_cons_succ, List.setIfInBounds_toArray, List.set_cons_zero, List.set_cons_succ]
          refine wpAnyH_ready (rs := [6]) (by kernel_rfl) (by simp) ?_
          refine AllReadyH.cons rfl (fun K hK => ?_) AllReadyH.nil
          go_simp
          go_wp2_with fail
          refine (row_any (HS3.out.on (Below.refl _ _).drew).cv y hyH).mono ?_
          rintro e u9 ⟨rfl, q, hq9⟩
          have hb9 : Below wr.heap.size wr u9 := by rw [hq9]; exact below_drewN (Below.refl _ _).drew q
          clear hq9
          refine hK.out _ _ (HX3.out.on hb9) (fun _ => ?_)
          clear hK K hHeld
          have hHeld := HX3.out.on hb9
          refine wpAnyH_take (i := 14) (v := ?_) rfl (by kernel_rfl) (by kernel_rfl) (by kernel_rfl) (fun _ _ _ h => h) (Or.inl ⟨by kernel_rfl, ?hy14⟩) (by assumption) ?_
          case hy14 => (intro w hSw; (try dsimp only at hSw); obtain ⟨t0, t1, t2, t3⟩ := hSw.all; go_simp; try with_reducible rfl)
          try simp only [Act.put, List.getElem_toArray, List.getElem_cons_zero, List.getElem_cons_succ, List.setIfInBounds_toArray, List.set_cons_zero, List.set_cons_succ]
          refine wpAnyH_ready (rs := [15]) (by kernel_rfl) (by simp) ?_
          refine AllReadyH.cons rfl (fun K hK => ?_) AllReadyH.nil
          go_simp
          go_wp2_with fail
          refine (HD.out _ _ X y N (HS3.out.on hb9) hXN hyH hN HFR.out HPT.out).mono ?_
          rintro e u8 ⟨rfl, hS8, hk8⟩
          refine hK.out _ _ (hHeld.kept hk8 hne) (fun _ => ?_)
          clear hK K
          refine wpAnyH_done (by kernel_rfl) ?_ _
          have HS8 := hid (hS8.congr HST.out)
          have HX8 := hid (hHeld.kept hk8 hne)
          have HR8 := hid ((HR3.out.on hb9).kept hk8 (fun i z h => (HS3.out.on hb9).cv.no64 h))
          clear hS8 hk8 hHeld HS3 HX3 HR3
          go_wp2
          go_roundw
          case rel => exact ⟨y + 1, by go_num, by omega, by omega, HS8.out, HR8.out, HX8.out⟩
          case measure => simp [numOf]; omega
        · have e4 : decide ((y : Int) < (Y : Int) + (M : Int)) = false := decide_eq_false (by omega)
          obtain rfl : y = Y + M := by omega
          have HS9 := hid (HS3.out.congr (rws_end HQ.out (by dsimp only; omega)))
          clear HS3
          go_wp2
          go_roundw
          case rel => exact ⟨j + 1, by go_num, by omega, HS9.out, HR3.out⟩
          case measure => simp [numOf]; omega
    · have e1 : decide ((j : Int) < m.length) = false := decide_eq_false (by omega)
      obtain rfl : j = m.length := by omega
      have HF : Hid (St w0 wr p b W H g (fun x y => has (cut (ara W H) r) x y && inC l x y) L) := HS1.out.congr (fun x y => by rw [List.take_length, HP.out.pt])
      clear HS1
      go_wp2
      go_end0
      exact ⟨rfl, HF.out⟩
end Go.Proofs.YtmiapccngeafkaaDoor

/- The contract of the program's Fill. -/
namespace Go.Proofs.YtmiapccngeafkaaDoor
open Go Go.RowKit

variable {w w' w0 : World} {p b W H : Nat} {L : List Int} {g : Int → Int → Int → Int} {d d' : Int → Int → Bool}

theorem trn_eq {W H : Nat} {g : Int → Int → Int → Int} {d d' : Int → Int → Bool} {L : List Int} (hL : L.length = W * H) (h : ∀ x y : Nat, x < W → y < H → ∀ z, L[y * W + x]? = some z → (if d x y then g x y z else z) = (if d' x y then g x y z else z)) : trn W g d L = trn W g d' L :=
  trn_ext hL (by rw [trn_length, hL]) fun x y hx hy => by
    rw [trn_get hx]
    cases e : L[y * W + x]? with
    | none => rfl
    | some z => rw [Option.map_some, Option.map_some, h x y hx hy z e]

theorem adds_zero (x y : Int) (u v : Int) : d u v = adds d x 0 y u v := by
  have : (decide (v = y) && decide (x ≤ u) && decide (u < x + 0)) = false := by
    rw [Bool.eq_false_iff]
    simp only [ne_eq, Bool.and_eq_true, decide_eq_true_eq]
    omega
  rw [adds, this, Bool.or_false]
theorem adds_step (x i y : Nat) (u v : Int) : add1 (adds d x i y) ((x + i : Nat) : Int) y u v = adds d x (i + 1 : Nat) y u v := by
  rw [add1, adds, adds, Bool.or_assoc]
  congr 1
  rw [Bool.eq_iff_iff]
  simp only [Bool.or_eq_true, Bool.and_eq_true, decide_eq_true_eq]
  omega

/-- A point of a piece: what it has, and what comes of it when it is turned. -/
theorem St.at_ {x y i n : Nat} (h : St w0 w p b W H g (adds d x i y) L) (hxn : x + n ≤ W) (hy : y < H) (hi : i < n) (hd : ∀ i : Nat, i < n → d ((x + i : Nat) : Int) y = false) :
    ∃ z, L[y * W + (x + i)]? = some z ∧ Col z ∧ w.cell? ⟨b, y * W + x + i, none⟩ = some (.int .u32 z) ∧ w.frozen? ⟨b, y * W + x + i, none⟩ = false ∧
      ∀ t, t = g ((x + i : Nat) : Int) y z → Col t → St w0 (w.setCell ⟨b, y * W + x + i, none⟩ (.int .u32 t)) p b W H g (adds d x (i + 1 : Nat) y) L ∧ Kp [b] w (w.setCell ⟨b, y * W + x + i, none⟩ (.int .u32 t)) := by
  have hx : x + i < W := by omega
  obtain ⟨z, hz, hc⟩ := h.cv.at_ hx hy
  have hd' : adds d x i y ((x + i : Nat) : Int) y = false := by
    rw [adds, hd i hi, Bool.false_or, Bool.eq_false_iff]
    simp only [ne_eq, Bool.and_eq_true, decide_eq_true_eq]
    omega
  have hL : L[y * W + (x + i)]? = some z := by
    rw [trn_get hx, hd'] at hz
    cases e : L[y * W + (x + i)]? with
    | none => rw [e] at hz; cases hz
    | some t => rw [e] at hz; simpa using hz
  have ea : y * W + x + i = y * W + (x + i) := by omega
  rw [ea]
  refine ⟨z, hL, hc, h.cv.cell hz, h.cv.fz _, fun t ht htc => ?_⟩
  have hs := h.cv.set (y * W + (x + i)) htc
  rw [ht, trn_set h.len hx hy hL] at hs
  have hk : Kp [b] w (w.setCell ⟨b, y * W + (x + i), none⟩ (.int .u32 t)) := (Kp.refl [b] w).set _ (by simp) _
  rw [ht] at hk ⊢
  exact ⟨(St.mk hs (h.kp.trans hk (fun k hk _ => hk))).congr (adds_step x i y), hk⟩

set_option maxRecDepth 100000 in
set_option maxHeartbeats 2000000 in
theorem fill1_any (v : Int) (hv : Col v) (q : Nat) (hq : w0.cell? ⟨q, 0, none⟩ = some (.int .u32 v)) (hne : q ≠ b) (P : Int → Int → Bool) : Does 34 #[.pointer (some ⟨q, 0, none⟩)] w0 p b W H (fun _ _ _ => v) P L := by
  intro d u x y n hS hxn hy hn hd _
  have HS := hid hS
  have HQ := hid hq
  have HD := hid hd
  have hW := hS.cv.hW
  have hH := hS.cv.hH
  obtain ⟨o, ho⟩ : ∃ o, y * W + x = o := ⟨_, rfl⟩
  rw [ho]
  clear hS hq hd
  show Calls Tryd.prog 34 #[.int .i64 (x : Nat), .int .i64 (y : Nat), .slice (some ⟨b, o, none⟩) n (W - x), .pointer (some ⟨q, 0, none⟩)] u _
  go_enter Tryd.func34, Tryd.ntmps34
  go_wp2
  go_loopw [10] (fun c wr => ∃ i : Nat, c = .int .i64 i ∧ i ≤ n ∧ St w0 wr p b W H (fun _ _ _ => v) (adds d x i y) L ∧ Kp [b] u wr) (fun c _ => n - (numOf c).toNat)
  case atStart => exact ⟨0, rfl, Nat.zero_le _, HS.out.congr (adds_zero x y), Kp.refl _ _⟩
  case round =>
    obtain ⟨i, rfl, hi, hS, hk⟩ := hrel
    have HS1 := hid hS
    have HK := hid hk
    by_cases hgo : i < n
    · have e1 : decide ((i : Int) < n) = true := decide_eq_true (by omega)
      have e2 : (i : Int) < n := by omega
      obtain ⟨z, _, _, c0, fz, hput⟩ := hS.at_ hxn hy hgo HD.out
      have HP := hid (hput v rfl hv)
      have cq := hS.kp.cell HQ.out (by simpa using hne)
      rw [ho] at c0 fz HP
      clear hS hk hput
      go_wp2
      go_roundw
      case rel => exact ⟨i + 1, by go_num, by omega, HP.out.1, HK.out.trans HP.out.2 (fun k hk _ => hk)⟩
      case measure => simp [numOf]; omega
    · have e1 : decide ((i : Int) < n) = false := decide_eq_false (by omega)
      obtain rfl : i = n := by omega
      clear hS hk
      go_wp2
      go_end0
      exact ⟨rfl, HS1.out, HK.out⟩

theorem ara_ck (hW : 1 ≤ W ∧ W ≤ 48) (hH : 1 ≤ H ∧ H ≤ 48) : Ck (ara W H) := ⟨by simp only [ara]; omega, by simp only [ara]; omega, by simp only [ara]; omega, by simp only [ara]; omega, by simp only [ara]; omega, by simp only [ara]; omega⟩

/-- What Fill makes. -/
def fll (W : Nat) (v : Int) (l : List Rc) (L : List Int) : List Int := trn W (fun _ _ _ => v) (inC l) L

set_option maxRecDepth 100000 in
set_option maxHeartbeats 2000000 in
theorem cfill_any (h : Cv 56 w p b W H L) (v : Int) (hv : Col v) (a : Option Addr) (n c : Nat) (l : List Rc) (hr : RdC w a n c l) (hn : n ≤ 40) :
    Calls Tryd.prog 19 #[.pointer (some ⟨p, 0, none⟩), .int .u32 v, .slice a n c] w fun e w' => e = .returned (.tuple #[]) ∧ Cv 56 w' p b W H (fll W v l L) ∧ Kp [b] w w' := by
  have hlt := h.lt
  have hk := ara_ck h.hW h.hH
  have HB : Hid (Below w.heap.size w (w.alloc (.cells #[.int .u32 v] 22))) := below_new w _
  have HC := hid (h.on HB.out)
  have HR := hid (hr.on HB.out)
  have HQ : Hid ((w.alloc (.cells #[.int .u32 v] 22)).cell? ⟨w.heap.size, 0, none⟩ = some (.int .u32 v)) := by
    rw [Hid, World.cell?_alloc_mark]
    rfl
  have hl := h.len
  have HLE : Hid (trn W (fun _ _ _ => v) (fun _ _ => false) L = L) := trn_none hl (fun _ _ _ _ => rfl)
  have HEQ : Hid (trn W (fun _ _ _ => v) (fun x y => has (cut (ara W H) (ara W H)) x y && inC l x y) L = fll W v l L) := by
    refine trn_congr hl fun x y hx hy => ?_
    rw [cut_self hk, has_ara h.hW.1 h.hH.1]
    have e1 : decide ((0 : Int) ≤ (x : Nat)) = true := decide_eq_true (by omega)
    have e2 : decide (((x : Nat) : Int) < W) = true := decide_eq_true (by omega)
    have e3 : decide ((0 : Int) ≤ (y : Nat)) = true := decide_eq_true (by omega)
    have e4 : decide (((y : Nat) : Int) < H) = true := decide_eq_true (by omega)
    rw [e1, e2, e3, e4]
    rfl
  have hmf : ∀ (fn : Fn) (first cap : Array Value) (w : World), (Instr.makeFunc fn first cap).run Tryd.prog w = .ok (.func fn first cap) w := fun _ _ _ _ => rfl
  clear h hr hl
  go_enter Tryd.func19, Tryd.ntmps19
  go_wp2_with fail
  obtain ⟨U, HU⟩ : ∃ U, Hid (U = w.alloc (.cells #[.int .u32 v] 22)) := ⟨_, rfl⟩
  rw [← HU.out] at HB HC HR HQ
  rw [← HU.out]
  clear HU
  refine (carea_any HC.out).mono ?_
  rintro e u1 ⟨rfl, hb1⟩
  have HB1 := hid (Below.on HB.out hb1)
  have HC1 := hid (HC.out.on hb1)
  have HR1 := hid (HR.out.on hb1)
  have HQ1 : Hid (u1.cell? ⟨w.heap.size, 0, none⟩ = some (.int .u32 v)) := (kp_of_below hb1 []).cell HQ.out (by simp)
  clear hb1 HC HR HQ HB
  go_wp2_with fail
  have hS : St u1 u1 p b W H (fun _ _ _ => v) (fun _ _ => false) L := ⟨by rw [HLE.out]; exact HC1.out, Kp.refl _ _⟩
  refine (each_any 34 #[.pointer (some ⟨w.heap.size, 0, none⟩)] (enters_of Tryd.func34 (by kernel_rfl) rfl) hS (ara W H) (fill1_any v hv w.heap.size HQ1.out (by omega) _) hk.ok (by rw [cut_self hk]; exact may_of (.inr hk)) (by rw [cut_self hk]; exact hk.ok) a n c l HR1.out hn (by rw [cut_self hk]; exact fun _ _ h => h)).mono ?_
  rintro e u2 ⟨rfl, hS2⟩
  have HC2 := hS2.cv
  rw [HEQ.out] at HC2
  have HK : Kp [b] w u2 := (kp_of_below HB1.out [b]).trans hS2.kp (fun k hk _ => hk)
  go_wp2
  go_end0
  exact ⟨rfl, HC2, HK⟩
end Go.Proofs.YtmiapccngeafkaaDoor

/- Colours: what the program's small functions answer. -/
namespace Go.Proofs.YtmiapccngeafkaaDoor
open Go Go.RowKit

theorem ret_i {k : IntKind} {a b : Int} (h : a = b) : Ending.returned (.int k a) = .returned (.int k b) := by rw [h]

theorem pcut_any (n : Int) (_hn : -9223372036854775808 ≤ n ∧ n ≤ 9223372036854775807) (w : World) :
    Calls Tryd.prog 59 #[.int .i64 n] w fun e w' => e = .returned (.int .i64 (ct n)) ∧ w' = w := by
  go_enter Tryd.func59, Tryd.ntmps59
  go_wp2
  all_goals
    go_ret
    exact ⟨ret_i (by unfold ct; omega), rfl⟩

set_option maxHeartbeats 1000000 in
theorem split_any (u : Int) (hu : Col u) (w : World) :
    Calls Tryd.prog 49 #[.int .u32 u] w fun e w' => e = .returned (.agg #[.int .i64 (pt3 u), .int .i64 (pt2 u), .int .i64 (pt1 u), .int .i64 (pt0 u)]) ∧ Below w.heap.size w w' := by
  obtain ⟨h0, h1⟩ := hu
  go_enter Tryd.func49, Tryd.ntmps49
  go_wp2
  refine wp_loop_rounds 5 ?_
  rw [rounds_succ]; go_wp2
  rw [rounds_succ]; go_wp2
  rw [rounds_succ]; go_wp2
  rw [rounds_succ]; go_wp2
  rw [rounds_succ]; go_wp2
  have e3 : u / 16777216 = pt3 u := by unfold pt3; omega
  have e2 : u * 256 % 4294967296 / 16777216 = pt2 u := by unfold pt2; omega
  have e1 : u * 256 % 4294967296 * 256 % 4294967296 / 16777216 = pt1 u := by unfold pt1; omega
  have e0 : u * 256 % 4294967296 * 256 % 4294967296 * 256 % 4294967296 / 16777216 = pt0 u := by unfold pt0; omega
  rw [e3, e2, e1, e0]
  exact bodyPost_ret (v := .agg #[.int .i64 (pt3 u), .int .i64 (pt2 u), .int .i64 (pt1 u), .int .i64 (pt0 u)]) (by simp [results, Tryd.results49, go_sem]) rfl ⟨rfl, ((Below.refl _ _).alloc (Nat.le_refl _) _).alloc (by simp) _⟩

set_option maxHeartbeats 1000000 in
theorem join_any (a r g b : Int) (ha : -9223372036854775808 ≤ a ∧ a ≤ 9223372036854775807) (hr : -9223372036854775808 ≤ r ∧ r ≤ 9223372036854775807) (hg : -9223372036854775808 ≤ g ∧ g ≤ 9223372036854775807) (hb : -9223372036854775808 ≤ b ∧ b ≤ 9223372036854775807) (w : World) :
    Calls Tryd.prog 51 #[.agg #[.int .i64 a, .int .i64 r, .int .i64 g, .int .i64 b]] w fun e w' => e = .returned (.int .u32 (jn a r g b)) ∧ Below w.heap.size w w' := by
  have b1 := ct_bd a
  have b2 := ct_bd r
  have b3 := ct_bd g
  have b4 := ct_bd b
  have HJ : Hid (jn a r g b = ((ct a * 256 + ct r) * 256 + ct g) * 256 + ct b) := rfl
  go_enter Tryd.func51, Tryd.ntmps51
  go_wp2
  refine wp_loop_rounds 5 ?_
  rw [rounds_succ]; go_wp2_with (go_at_call 59; refine (pcut_any _ ha _).mono ?_; rintro e w' ⟨rfl, rfl⟩)
  rw [rounds_succ]; go_wp2_with (go_at_call 59; refine (pcut_any _ hr _).mono ?_; rintro e w' ⟨rfl, rfl⟩)
  rw [rounds_succ]; go_wp2_with (go_at_call 59; refine (pcut_any _ hg _).mono ?_; rintro e w' ⟨rfl, rfl⟩)
  rw [rounds_succ]; go_wp2_with (go_at_call 59; refine (pcut_any _ hb _).mono ?_; rintro e w' ⟨rfl, rfl⟩)
  rw [rounds_succ]; go_wp2
  rw [or0 b1, orj (x := ct a) (by omega) b2, orj (x := ct a * 256 + ct r) (by omega) b3, orj (x := (ct a * 256 + ct r) * 256 + ct g) (by omega) b4]
  go_ret
  exact ⟨ret_i HJ.out.symm, (Below.refl _ _).alloc (Nat.le_refl _) _⟩

theorem scale_any (x y : Int) (hx : -9223372036854775808 ≤ x ∧ x ≤ 9223372036854775807) (hy : -9223372036854775808 ≤ y ∧ y ≤ 9223372036854775807) (w : World) :
    Calls Tryd.prog 50 #[.int .i64 x, .int .i64 y] w fun e w' => e = .returned (.int .i64 (scl x y)) ∧ w' = w := by
  have b1 := ct_bd x
  have b2 := ct_bd y
  have b3 := prod_bd b1 b2
  have HJ : Hid (scl x y = (ct x * ct y + 127) / 255) := rfl
  go_enter Tryd.func50, Tryd.ntmps50
  go_wp2_with (go_at_call 59; refine (pcut_any _ (by assumption) _).mono ?_; rintro e w' ⟨rfl, rfl⟩)
  go_ret
  exact ⟨ret_i HJ.out.symm, rfl⟩



end Go.Proofs.YtmiapccngeafkaaDoor

/- Colours: what the program's Over answers; the document's example. -/
namespace Go.Proofs.YtmiapccngeafkaaDoor
open Go Go.RowKit

theorem wfi {x : Int} (h : (Lit.int .i64 x).wf = true) : -9223372036854775808 ≤ x ∧ x ≤ 9223372036854775807 := by simpa [Lit.wf, IntKind.min, IntKind.max, IntKind.signed, IntKind.bits] using h
theorem wfu {x : Int} (h : (Lit.int .u32 x).wf = true) : Col x := by
  have : 0 ≤ x ∧ x ≤ 4294967295 := by simpa [Lit.wf, IntKind.min, IntKind.max, IntKind.signed, IntKind.bits] using h
  exact ⟨this.1, by omega⟩

set_option maxHeartbeats 2000000 in
theorem over_any (u o : Int) (hu : Col u) (ho : Col o) (w : World) :
    Calls Tryd.prog 40 #[.int .u32 u, .int .u32 o] w fun e w' => e = .returned (.int .u32 (ovr u o)) ∧ Below w.heap.size w w' := by
  have a0 := pt0_bd u
  have a1 := pt1_bd u
  have a2 := pt2_bd u
  have a3 := pt3_bd u
  have b0 := pt0_bd o
  have b1 := pt1_bd o
  have b2 := pt2_bd o
  have b3 := pt3_bd o
  have c0 := scl_bd (pt0 u) (255 - pt3 o)
  have c1 := scl_bd (pt1 u) (255 - pt3 o)
  have c2 := scl_bd (pt2 u) (255 - pt3 o)
  have c3 := scl_bd (pt3 u) (255 - pt3 o)
  have HJ : Hid (ovr u o = jn (pt3 o + scl (pt3 u) (255 - pt3 o)) (pt2 o + scl (pt2 u) (255 - pt3 o)) (pt1 o + scl (pt1 u) (255 - pt3 o)) (pt0 o + scl (pt0 u) (255 - pt3 o))) := rfl
  go_enter Tryd.func40, Tryd.ntmps40
  go_wp2_with fail
  refine (split_any u hu _).mono ?_
  rintro e w1 ⟨rfl, h1⟩
  go_wp2_with fail
  refine (split_any o ho _).mono ?_
  rintro e w2 ⟨rfl, h2⟩
  go_wp2
  refine wp_loop_rounds 5 ?_
  rw [rounds_succ]
  go_wp2
  refine wp_region_held_drew (S := fun x => x.cell? ⟨w2.heap.size, 0, none⟩ = some (.int .i64 (pt3 u)) ∧ x.cell? ⟨w2.heap.size + 1, 0, none⟩ = some (.int .i64 (pt3 o))) (by kernel_rfl) ?hh (fun hHeld => ?_)
  case hh => exact (⟨by go_simp, by go_simp⟩)
  refine wpAnyH_take (i := 0) (v := ?_) rfl (by kernel_rfl) (by kernel_rfl) (by kernel_rfl) (fun _ _ _ h => h) (Or.inl ⟨by kernel_rfl, ?hy0⟩) (by assumption) ?_
  case hy0 => (intro w hSw; (try dsimp only at hSw); obtain ⟨t0, t1⟩ := hSw; go_simp; try with_reducible rfl)
  try simp only [Act.put, List.getElem_toArray, List.getElem_cons_zero, List.setIfInBounds_toArray, List.set_cons_zero, List.set_cons_succ]
  refine wpAnyH_take (i := 1) (v := ?_) rfl (by kernel_rfl) (by kernel_rfl) (by kernel_rfl) (fun _ _ _ h => h) (Or.inl ⟨by kernel_rfl, ?hy1⟩) (by assumption) ?_
  case hy1 => (intro w hSw; (try dsimp only at hSw); obtain ⟨t0, t1⟩ := hSw; go_simp; try with_reducible rfl)
  try simp only [Act.put, List.getElem_toArray, List.getElem_cons_zero, List.getElem_cons_succ, List.setIfInBounds_toArray, List.set_cons_zero, List.set_cons_succ]
  refine wpAnyH_take (i := 2) (v := ?_) rfl (by kernel_rfl) (by kernel_rfl) (by kernel_rfl) (fun _ _ _ h => h) (Or.inl ⟨by kernel_rfl, ?hy2⟩) (by assumption) ?_
  case hy2 => (intro w hSw; (try dsimp only at hSw); obtain ⟨t0, t1⟩ := hSw; go_simp; try with_reducible rfl)
  try simp only [Act.put, List.getElem_toArray, List.getElem_cons_zero, List.getElem_cons_succ, List.setIfInBounds_toArray, List.set_cons_zero, List.set_cons_succ]
  refine wpAnyH_take (i := 3) (v := ?_) rfl (by kernel_rfl) (by kernel_rfl) (by kernel_rfl) (fun _ _ _ h => h) (Or.inl ⟨by kernel_rfl, ?hy3⟩) (by assumption) ?_
  case hy3 => (intro w hSw; (try dsimp only at hSw); obtain ⟨t0, t1⟩ := hSw; go_simp; try with_reducible rfl)
  try simp only [Act.put, List.getElem_toArray, List.getElem_cons_zero, List.getElem_cons_succ, List.setIfInBounds_toArray, List.set_cons_zero, List.set_cons_succ]
  refine wpAnyH_take (i := 4) (v := ?_) rfl (by kernel_rfl) (by kernel_rfl) (by kernel_rfl) (fun _ _ _ h => h) (Or.inl ⟨by kernel_rfl, ?hy4⟩) (by assumption) ?_
  case hy4 => (intro w hSw; (try dsimp only at hSw); obtain ⟨t0, t1⟩ := hSw; go_simp; try with_reducible rfl)
  try simp only [Act.put, List.getElem_toArray, List.getElem_cons_zero, List.getElem_cons_succ, List.setIfInBounds_toArray, List.set_cons_zero, List.set_cons_succ]
  refine wpAnyH_take (i := 5) (v := ?_) rfl (by kernel_rfl) (by kernel_rfl) (by kernel_rfl) (fun _ _ _ h => h) (Or.inl ⟨by kernel_rfl, ?hy5⟩) (by assumption) ?_
  case hy5 => (intro w hSw; (try dsimp only at hSw); obtain ⟨t0, t1⟩ := hSw; go_simp; try with_reducible rfl)
  try simp only [Act.put, List.getElem_toArray, List.getElem_cons_zero, List.getElem_cons_succ, List.setIfInBounds_toArray, List.set_cons_zero, List.set_cons_succ]
  refine wpAnyH_take (i := 6) (v := ?_) rfl (by kernel_rfl) (by kernel_rfl) (by kernel_rfl) (fun _ _ _ h => h) (Or.inl ⟨by kernel_rfl, ?hy6⟩) (by assumption) ?_
  case hy6 => (intro w hSw; (try dsimp only at hSw); obtain ⟨t0, t1⟩ := hSw; go_simp; try with_reducible rfl)
  try simp only [Act.put, List.getElem_toArray, List.getElem_cons_zero, List.getElem_cons_succ, List.setIfInBounds_toArray, List.set_cons_zero, List.set_cons_succ]
  refine wpAnyH_take (i := 7) (v := ?_) rfl (by kernel_rfl) (by kernel_rfl) (by kernel_rfl) (fun _ _ _ h => h) (Or.inl ⟨by kernel_rfl, ?hy7⟩) (by assumption) ?_
  case hy7 => (intro w hSw; (try dsimp only at hSw); obtain ⟨t0, t1⟩ := hSw; go_simp; try with_reducible rfl)
  try simp only [Act.put, List.getElem_toArray, List.getElem_cons_zero, List.getElem_cons_succ, List.setIfInBounds_toArray, List.set_cons_zero, List.set_cons_succ]
  refine wpAnyH_ready (rs := [8]) (by kernel_rfl) (by simp) ?_
  refine AllReadyH.cons rfl (fun K hK => ?_) AllReadyH.nil
  go_simp
  go_wp2_with fail
  refine (scale_any (pt3 u) (255 - pt3 o) (by omega) (by omega) _).mono ?_
  rintro e u208 ⟨rfl, rfl⟩
  refine hK.out _ _ hHeld (fun _ => ?_)
  clear hK K
  refine wpAnyH_take (i := 9) (v := ?_) rfl (by kernel_rfl) (by kernel_rfl) (by kernel_rfl) (fun _ _ _ h => h) (Or.inl ⟨by kernel_rfl, ?hy9⟩) (by assumption) ?_
  case hy9 => (intro w hSw; (try dsimp only at hSw); obtain ⟨t0, t1⟩ := hSw; go_simp; try with_reducible rfl)
  try simp only [Act.put, List.getElem_toArray, List.getElem_cons_zero, List.getElem_cons_succ, List.setIfInBounds_toArray, List.set_cons_zero, List.set_cons_succ]
  refine wpAnyH_take (i := 10) (v := ?_) rfl (by kernel_rfl) (by kernel_rfl) (by kernel_rfl) (fun _ _ _ h => h) (Or.inl ⟨by kernel_rfl, ?hy10⟩) (by assumption) ?_
  case hy10 => (intro w hSw; (try dsimp only at hSw); obtain ⟨t0, t1⟩ := hSw; go_simp; try with_reducible rfl)
  try simp only [Act.put, List.getElem_toArray, List.getElem_cons_zero, List.getElem_cons_succ, List.setIfInBounds_toArray, List.set_cons_zero, List.set_cons_succ]
  refine wpAnyH_ready (rs := [11]) (by kernel_rfl) (by simp) ?_
  refine AllReadyH.cons rfl (fun K hK => ?_) AllReadyH.nil
  go_simp
  refine hK.out _ _ ⟨by go_simp, by go_simp⟩ (fun _ => ?_)
  clear hK K
  refine wpAnyH_done (by kernel_rfl) ?_ _
  go_wp2
  rw [rounds_succ]
  go_wp2
  refine wp_region_held_drew (S := fun x => x.cell? ⟨w2.heap.size, 1, none⟩ = some (.int .i64 (pt2 u)) ∧ x.cell? ⟨w2.heap.size + 1, 1, none⟩ = some (.int .i64 (pt2 o))) (by kernel_rfl) ?hh (fun hHeld => ?_)
  case hh => exact (⟨by go_simp, by go_simp⟩)
  refine wpAnyH_take (i := 0) (v := ?_) rfl (by kernel_rfl) (by kernel_rfl) (by kernel_rfl) (fun _ _ _ h => h) (Or.inl ⟨by kernel_rfl, ?hy0⟩) (by assumption) ?_
  case hy0 => (intro w hSw; (try dsimp only at hSw); obtain ⟨t0, t1⟩ := hSw; go_simp; try with_reducible rfl)
  try simp only [Act.put, List.getElem_toArray, List.getElem_cons_zero, List.setIfInBounds_toArray, List.set_cons_zero, List.set_cons_succ]
  refine wpAnyH_take (i := 1) (v := ?_) rfl (by kernel_rfl) (by kernel_rfl) (by kernel_rfl) (fun _ _ _ h => h) (Or.inl ⟨by kernel_rfl, ?hy1⟩) (by assumption) ?_
  case hy1 => (intro w hSw; (try dsimp only at hSw); obtain ⟨t0, t1⟩ := hSw; go_simp; try with_reducible rfl)
  try simp only [Act.put, List.getElem_toArray, List.getElem_cons_zero, List.getElem_cons_succ, List.setIfInBounds_toArray, List.set_cons_zero, List.set_cons_succ]
  refine wpAnyH_take (i := 2) (v := ?_) rfl (by kernel_rfl) (by kernel_rfl) (by kernel_rfl) (fun _ _ _ h => h) (Or.inl ⟨by kernel_rfl, ?hy2⟩) (by assumption) ?_
  case hy2 => (intro w hSw; (try dsimp only at hSw); obtain ⟨t0, t1⟩ := hSw; go_simp; try with_reducible rfl)
  try simp only [Act.put, List.getElem_toArray, List.getElem_cons_zero, List.getElem_cons_succ, List.setIfInBounds_toArray, List.set_cons_zero, List.set_cons_succ]
  refine wpAnyH_take (i := 3) (v := ?_) rfl (by kernel_rfl) (by kernel_rfl) (by kernel_rfl) (fun _ _ _ h => h) (Or.inl ⟨by kernel_rfl, ?hy3⟩) (by assumption) ?_
  case hy3 => (intro w hSw; (try dsimp only at hSw); obtain ⟨t0, t1⟩ := hSw; go_simp; try with_reducible rfl)
  try simp only [Act.put, List.getElem_toArray, List.getElem_cons_zero, List.getElem_cons_succ, List.setIfInBounds_toArray, List.set_cons_zero, List.set_cons_succ]
  refine wpAnyH_take (i := 4) (v := ?_) rfl (by kernel_rfl) (by kernel_rfl) (by kernel_rfl) (fun _ _ _ h => h) (Or.inl ⟨by kernel_rfl, ?hy4⟩) (by assumption) ?_
  case hy4 => (intro w hSw; (try dsimp only at hSw); obtain ⟨t0, t1⟩ := hSw; go_simp; try with_reducible rfl)
  try simp only [Act.put, List.getElem_toArray, List.getElem_cons_zero, List.getElem_cons_succ, List.setIfInBounds_toArray, List.set_cons_zero, List.set_cons_succ]
  refine wpAnyH_take (i := 5) (v := ?_) rfl (by kernel_rfl) (by kernel_rfl) (by kernel_rfl) (fun _ _ _ h => h) (Or.inl ⟨by kernel_rfl, ?hy5⟩) (by assumption) ?_
  case hy5 => (intro w hSw; (try dsimp only at hSw); obtain ⟨t0, t1⟩ := hSw; go_simp; try with_reducible rfl)
  try simp only [Act.put, List.getElem_toArray, List.getElem_cons_zero, List.getElem_cons_succ, List.setIfInBounds_toArray, List.set_cons_zero, List.set_cons_succ]
  refine wpAnyH_take (i := 6) (v := ?_) rfl (by kernel_rfl) (by kernel_rfl) (by kernel_rfl) (fun _ _ _ h => h) (Or.inl ⟨by kernel_rfl, ?hy6⟩) (by assumption) ?_
  case hy6 => (intro w hSw; (try dsimp only at hSw); obtain ⟨t0, t1⟩ := hSw; go_simp; try with_reducible rfl)
  try simp only [Act.put, List.getElem_toArray, List.getElem_cons_zero, List.getElem_cons_succ, List.setIfInBounds_toArray, List.set_cons_zero, List.set_cons_succ]
  refine wpAnyH_take (i := 7) (v := ?_) rfl (by kernel_rfl) (by kernel_rfl) (by kernel_rfl) (fun _ _ _ h => h) (Or.inl ⟨by kernel_rfl, ?hy7⟩) (by assumption) ?_
  case hy7 => (intro w hSw; (try dsimp only at hSw); obtain ⟨t0, t1⟩ := hSw; go_simp; try with_reducible rfl)
  try simp only [Act.put, List.getElem_toArray, List.getElem_cons_zero, List.getElem_cons_succ, List.setIfInBounds_toArray, List.set_cons_zero, List.set_cons_succ]
  refine wpAnyH_ready (rs := [8]) (by kernel_rfl) (by simp) ?_
  refine AllReadyH.cons rfl (fun K hK => ?_) AllReadyH.nil
  go_simp
  go_wp2_with fail
  refine (scale_any (pt2 u) (255 - pt3 o) (by omega) (by omega) _).mono ?_
  rintro e u208 ⟨rfl, rfl⟩
  refine hK.out _ _ hHeld (fun _ => ?_)
  clear hK K
  refine wpAnyH_take (i := 9) (v := ?_) rfl (by kernel_rfl) (by kernel_rfl) (by kernel_rfl) (fun _ _ _ h => h) (Or.inl ⟨by kernel_rfl, ?hy9⟩) (by assumption) ?_
  case hy9 => (intro w hSw; (try dsimp only at hSw); obtain ⟨t0, t1⟩ := hSw; go_simp; try with_reducible rfl)
  try simp only [Act.put, List.getElem_toArray, List.getElem_cons_zero, List.getElem_cons_succ, List.setIfInBounds_toArray, List.set_cons_zero, List.set_cons_succ]
  refine wpAnyH_take (i := 10) (v := ?_) rfl (by kernel_rfl) (by kernel_rfl) (by kernel_rfl) (fun _ _ _ h => h) (Or.inl ⟨by kernel_rfl, ?hy10⟩) (by assumption) ?_
  case hy10 => (intro w hSw; (try dsimp only at hSw); obtain ⟨t0, t1⟩ := hSw; go_simp; try with_reducible rfl)
  try simp only [Act.put, List.getElem_toArray, List.getElem_cons_zero, List.getElem_cons_succ, List.setIfInBounds_toArray, List.set_cons_zero, List.set_cons_succ]
  refine wpAnyH_ready (rs := [11]) (by kernel_rfl) (by simp) ?_
  refine AllReadyH.cons rfl (fun K hK => ?_) AllReadyH.nil
  go_simp
  refine hK.out _ _ ⟨by go_simp, by go_simp⟩ (fun _ => ?_)
  clear hK K
  refine wpAnyH_done (by kernel_rfl) ?_ _
  go_wp2
  rw [rounds_succ]
  go_wp2
  refine wp_region_held_drew (S := fun x => x.cell? ⟨w2.heap.size, 2, none⟩ = some (.int .i64 (pt1 u)) ∧ x.cell? ⟨w2.heap.size + 1, 2, none⟩ = some (.int .i64 (pt1 o))) (by kernel_rfl) ?hh (fun hHeld => ?_)
  case hh => exact (⟨by go_simp, by go_simp⟩)
  refine wpAnyH_take (i := 0) (v := ?_) rfl (by kernel_rfl) (by kernel_rfl) (by kernel_rfl) (fun _ _ _ h => h) (Or.inl ⟨by kernel_rfl, ?hy0⟩) (by assumption) ?_
  case hy0 => (intro w hSw; (try dsimp only at hSw); obtain ⟨t0, t1⟩ := hSw; go_simp; try with_reducible rfl)
  try simp only [Act.put, List.getElem_toArray, List.getElem_cons_zero, List.setIfInBounds_toArray, List.set_cons_zero, List.set_cons_succ]
  refine wpAnyH_take (i := 1) (v := ?_) rfl (by kernel_rfl) (by kernel_rfl) (by kernel_rfl) (fun _ _ _ h => h) (Or.inl ⟨by kernel_rfl, ?hy1⟩) (by assumption) ?_
  case hy1 => (intro w hSw; (try dsimp only at hSw); obtain ⟨t0, t1⟩ := hSw; go_simp; try with_reducible rfl)
  try simp only [Act.put, List.getElem_toArray, List.getElem_cons_zero, List.getElem_cons_succ, List.setIfInBounds_toArray, List.set_cons_zero, List.set_cons_succ]
  refine wpAnyH_take (i := 2) (v := ?_) rfl (by kernel_rfl) (by kernel_rfl) (by kernel_rfl) (fun _ _ _ h => h) (Or.inl ⟨by kernel_rfl, ?hy2⟩) (by assumption) ?_
  case hy2 => (intro w hSw; (try dsimp only at hSw); obtain ⟨t0, t1⟩ := hSw; go_simp; try with_reducible rfl)
  try simp only [Act.put, List.getElem_toArray, List.getElem_cons_zero, List.getElem_cons_succ, List.setIfInBounds_toArray, List.set_cons_zero, List.set_cons_succ]
  refine wpAnyH_take (i := 3) (v := ?_) rfl (by kernel_rfl) (by kernel_rfl) (by kernel_rfl) (fun _ _ _ h => h) (Or.inl ⟨by kernel_rfl, ?hy3⟩) (by assumption) ?_
  case hy3 => (intro w hSw; (try dsimp only at hSw); obtain ⟨t0, t1⟩ := hSw; go_simp; try with_reducible rfl)
  try simp only [Act.put, List.getElem_toArray, List.getElem_cons_zero, List.getElem_cons_succ, List.setIfInBounds_toArray, List.set_cons_zero, List.set_cons_succ]
  refine wpAnyH_take (i := 4) (v := ?_) rfl (by kernel_rfl) (by kernel_rfl) (by kernel_rfl) (fun _ _ _ h => h) (Or.inl ⟨by kernel_rfl, ?hy4⟩) (by assumption) ?_
  case hy4 => (intro w hSw; (try dsimp only at hSw); obtain ⟨t0, t1⟩ := hSw; go_simp; try with_reducible rfl)
  try simp only [Act.put, List.getElem_toArray, List.getElem_cons_zero, List.getElem_cons_succ, List.setIfInBounds_toArray, List.set_cons_zero, List.set_cons_succ]
  refine wpAnyH_take (i := 5) (v := ?_) rfl (by kernel_rfl) (by kernel_rfl) (by kernel_rfl) (fun _ _ _ h => h) (Or.inl ⟨by kernel_rfl, ?hy5⟩) (by assumption) ?_
  case hy5 => (intro w hSw; (try dsimp only at hSw); obtain ⟨t0, t1⟩ := hSw; go_simp; try with_reducible rfl)
  try simp only [Act.put, List.getElem_toArray, List.getElem_cons_zero, List.getElem_cons_succ, List.setIfInBounds_toArray, List.set_cons_zero, List.set_cons_succ]
  refine wpAnyH_take (i := 6) (v := ?_) rfl (by kernel_rfl) (by kernel_rfl) (by kernel_rfl) (fun _ _ _ h => h) (Or.inl ⟨by kernel_rfl, ?hy6⟩) (by assumption) ?_
  case hy6 => (intro w hSw; (try dsimp only at hSw); obtain ⟨t0, t1⟩ := hSw; go_simp; try with_reducible rfl)
  try simp only [Act.put, List.getElem_toArray, List.getElem_cons_zero, List.getElem_cons_succ, List.setIfInBounds_toArray, List.set_cons_zero, List.set_cons_succ]
  refine wpAnyH_take (i := 7) (v := ?_) rfl (by kernel_rfl) (by kernel_rfl) (by kernel_rfl) (fun _ _ _ h => h) (Or.inl ⟨by kernel_rfl, ?hy7⟩) (by assumption) ?_
  case hy7 => (intro w hSw; (try dsimp only at hSw); obtain ⟨t0, t1⟩ := hSw; go_simp; try with_reducible rfl)
  try simp only [Act.put, List.getElem_toArray, List.getElem_cons_zero, List.getElem_cons_succ, List.setIfInBounds_toArray, List.set_cons_zero, List.set_cons_succ]
  refine wpAnyH_ready (rs := [8]) (by kernel_rfl) (by simp) ?_
  refine AllReadyH.cons rfl (fun K hK => ?_) AllReadyH.nil
  go_simp
  go_wp2_with fail
  refine (scale_any (pt1 u) (255 - pt3 o) (by omega) (by omega) _).mono ?_
  rintro e u208 ⟨rfl, rfl⟩
  refine hK.out _ _ hHeld (fun _ => ?_)
  clear hK K
  refine wpAnyH_take (i := 9) (v := ?_) rfl (by kernel_rfl) (by kernel_rfl) (by kernel_rfl) (fun _ _ _ h => h) (Or.inl ⟨by kernel_rfl, ?hy9⟩) (by assumption) ?_
  case hy9 => (intro w hSw; (try dsimp only at hSw); obtain ⟨t0, t1⟩ := hSw; go_simp; try with_reducible rfl)
  try simp only [Act.put, List.getElem_toArray, List.getElem_cons_zero, List.getElem_cons_succ, List.setIfInBounds_toArray, List.set_cons_zero, List.set_cons_succ]
  refine wpAnyH_take (i := 10) (v := ?_) rfl (by kernel_rfl) (by kernel_rfl) (by kernel_rfl) (fun _ _ _ h => h) (Or.inl ⟨by kernel_rfl, ?hy10⟩) (by assumption) ?_
  case hy10 => (intro w hSw; (try dsimp only at hSw); obtain ⟨t0, t1⟩ := hSw; go_simp; try with_reducible rfl)
  try simp only [Act.put, List.getElem_toArray, List.getElem_cons_zero, List.getElem_cons_succ, List.setIfInBounds_toArray, List.set_cons_zero, List.set_cons_succ]
  refine wpAnyH_ready (rs := [11]) (by kernel_rfl) (by simp) ?_
  refine AllReadyH.cons rfl (fun K hK => ?_) AllReadyH.nil
  go_simp
  refine hK.out _ _ ⟨by go_simp, by go_simp⟩ (fun _ => ?_)
  clear hK K
  refine wpAnyH_done (by kernel_rfl) ?_ _
  go_wp2
  rw [rounds_succ]
  go_wp2
  refine wp_region_held_drew (S := fun x => x.cell? ⟨w2.heap.size, 3, none⟩ = some (.int .i64 (pt0 u)) ∧ x.cell? ⟨w2.heap.size + 1, 3, none⟩ = some (.int .i64 (pt0 o))) (by kernel_rfl) ?hh (fun hHeld => ?_)
  case hh => exact (⟨by go_simp, by go_simp⟩)
  refine wpAnyH_take (i := 0) (v := ?_) rfl (by kernel_rfl) (by kernel_rfl) (by kernel_rfl) (fun _ _ _ h => h) (Or.inl ⟨by kernel_rfl, ?hy0⟩) (by assumption) ?_
  case hy0 => (intro w hSw; (try dsimp only at hSw); obtain ⟨t0, t1⟩ := hSw; go_simp; try with_reducible rfl)
  try simp only [Act.put, List.getElem_toArray, List.getElem_cons_zero, List.setIfInBounds_toArray, List.set_cons_zero, List.set_cons_succ]
  refine wpAnyH_take (i := 1) (v := ?_) rfl (by kernel_rfl) (by kernel_rfl) (by kernel_rfl) (fun _ _ _ h => h) (Or.inl ⟨by kernel_rfl, ?hy1⟩) (by assumption) ?_
  case hy1 => (intro w hSw; (try dsimp only at hSw); obtain ⟨t0, t1⟩ := hSw; go_simp; try with_reducible rfl)
  try simp only [Act.put, List.getElem_toArray, List.getElem_cons_zero, List.getElem_cons_succ, List.setIfInBounds_toArray, List.set_cons_zero, List.set_cons_succ]
  refine wpAnyH_take (i := 2) (v := ?_) rfl (by kernel_rfl) (by kernel_rfl) (by kernel_rfl) (fun _ _ _ h => h) (Or.inl ⟨by kernel_rfl, ?hy2⟩) (by assumption) ?_
  case hy2 => (intro w hSw; (try dsimp only at hSw); obtain ⟨t0, t1⟩ := hSw; go_simp; try with_reducible rfl)
  try simp only [Act.put, List.getElem_toArray, List.getElem_cons_zero, List.getElem_cons_succ, List.setIfInBounds_toArray, List.set_cons_zero, List.set_cons_succ]
  refine wpAnyH_take (i := 3) (v := ?_) rfl (by kernel_rfl) (by kernel_rfl) (by kernel_rfl) (fun _ _ _ h => h) (Or.inl ⟨by kernel_rfl, ?hy3⟩) (by assumption) ?_
  case hy3 => (intro w hSw; (try dsimp only at hSw); obtain ⟨t0, t1⟩ := hSw; go_simp; try with_reducible rfl)
  try simp only [Act.put, List.getElem_toArray, List.getElem_cons_zero, List.getElem_cons_succ, List.setIfInBounds_toArray, List.set_cons_zero, List.set_cons_succ]
  refine wpAnyH_take (i := 4) (v := ?_) rfl (by kernel_rfl) (by kernel_rfl) (by kernel_rfl) (fun _ _ _ h => h) (Or.inl ⟨by kernel_rfl, ?hy4⟩) (by assumption) ?_
  case hy4 => (intro w hSw; (try dsimp only at hSw); obtain ⟨t0, t1⟩ := hSw; go_simp; try with_reducible rfl)
  try simp only [Act.put, List.getElem_toArray, List.getElem_cons_zero, List.getElem_cons_succ, List.setIfInBounds_toArray, List.set_cons_zero, List.set_cons_succ]
  refine wpAnyH_take (i := 5) (v := ?_) rfl (by kernel_rfl) (by kernel_rfl) (by kernel_rfl) (fun _ _ _ h => h) (Or.inl ⟨by kernel_rfl, ?hy5⟩) (by assumption) ?_
  case hy5 => (intro w hSw; (try dsimp only at hSw); obtain ⟨t0, t1⟩ := hSw; go_simp; try with_reducible rfl)
  try simp only [Act.put, List.getElem_toArray, List.getElem_cons_zero, List.getElem_cons_succ, List.setIfInBounds_toArray, List.set_cons_zero, List.set_cons_succ]
  refine wpAnyH_take (i := 6) (v := ?_) rfl (by kernel_rfl) (by kernel_rfl) (by kernel_rfl) (fun _ _ _ h => h) (Or.inl ⟨by kernel_rfl, ?hy6⟩) (by assumption) ?_
  case hy6 => (intro w hSw; (try dsimp only at hSw); obtain ⟨t0, t1⟩ := hSw; go_simp; try with_reducible rfl)
  try simp only [Act.put, List.getElem_toArray, List.getElem_cons_zero, List.getElem_cons_succ, List.setIfInBounds_toArray, List.set_cons_zero, List.set_cons_succ]
  refine wpAnyH_take (i := 7) (v := ?_) rfl (by kernel_rfl) (by kernel_rfl) (by kernel_rfl) (fun _ _ _ h => h) (Or.inl ⟨by kernel_rfl, ?hy7⟩) (by assumption) ?_
  case hy7 => (intro w hSw; (try dsimp only at hSw); obtain ⟨t0, t1⟩ := hSw; go_simp; try with_reducible rfl)
  try simp only [Act.put, List.getElem_toArray, List.getElem_cons_zero, List.getElem_cons_succ, List.setIfInBounds_toArray, List.set_cons_zero, List.set_cons_succ]
  refine wpAnyH_ready (rs := [8]) (by kernel_rfl) (by simp) ?_
  refine AllReadyH.cons rfl (fun K hK => ?_) AllReadyH.nil
  go_simp
  go_wp2_with fail
  refine (scale_any (pt0 u) (255 - pt3 o) (by omega) (by omega) _).mono ?_
  rintro e u208 ⟨rfl, rfl⟩
  refine hK.out _ _ hHeld (fun _ => ?_)
  clear hK K
  refine wpAnyH_take (i := 9) (v := ?_) rfl (by kernel_rfl) (by kernel_rfl) (by kernel_rfl) (fun _ _ _ h => h) (Or.inl ⟨by kernel_rfl, ?hy9⟩) (by assumption) ?_
  case hy9 => (intro w hSw; (try dsimp only at hSw); obtain ⟨t0, t1⟩ := hSw; go_simp; try with_reducible rfl)
  try simp only [Act.put, List.getElem_toArray, List.getElem_cons_zero, List.getElem_cons_succ, List.setIfInBounds_toArray, List.set_cons_zero, List.set_cons_succ]
  refine wpAnyH_take (i := 10) (v := ?_) rfl (by kernel_rfl) (by kernel_rfl) (by kernel_rfl) (fun _ _ _ h => h) (Or.inl ⟨by kernel_rfl, ?hy10⟩) (by assumption) ?_
  case hy10 => (intro w hSw; (try dsimp only at hSw); obtain ⟨t0, t1⟩ := hSw; go_simp; try with_reducible rfl)
  try simp only [Act.put, List.getElem_toArray, List.getElem_cons_zero, List.getElem_cons_succ, List.setIfInBounds_toArray, List.set_cons_zero, List.set_cons_succ]
  refine wpAnyH_ready (rs := [11]) (by kernel_rfl) (by simp) ?_
  refine AllReadyH.cons rfl (fun K hK => ?_) AllReadyH.nil
  go_simp
  refine hK.out _ _ ⟨by go_simp, by go_simp⟩ (fun _ => ?_)
  clear hK K
  refine wpAnyH_done (by kernel_rfl) ?_ _
  go_wp2
  rw [rounds_succ]
  go_wp2_with fail
  refine (join_any (pt3 o + scl (pt3 u) (255 - pt3 o)) (pt2 o + scl (pt2 u) (255 - pt3 o)) (pt1 o + scl (pt1 u) (255 - pt3 o)) (pt0 o + scl (pt0 u) (255 - pt3 o)) (by omega) (by omega) (by omega) (by omega) _).mono ?_
  rintro e w3 ⟨rfl, h3⟩
  go_wp2
  go_ret
  have h4 := Below.on h1 h2
  have h5 := h4.size
  exact ⟨ret_i HJ.out.symm, Below.on ((((((h4.alloc h5 _).alloc (by simp; omega) _).alloc (by simp; omega) _).drew).drew).drew).drew h3⟩

end Go.Proofs.YtmiapccngeafkaaDoor

/- The contract of the program's Draw. -/
namespace Go.Proofs.YtmiapccngeafkaaDoor
open Go Go.RowKit

variable {w w' w0 : World} {p b W H : Nat} {L : List Int}

/-- The number's place of the point (u, v) of what is drawn at (x, y), so wide. -/
def kk (x y s u v : Int) : Nat := ((v - y) * s + u - x).toNat
/-- What comes of a point. -/
def gD (x y s : Int) (pix : List Int) (u v z : Int) : Int := match pix[kk x y s u v]? with
  | some o => ovr z o
  | none => z
theorem gD_col {x y s : Int} {pix : List Int} (u v : Int) {z : Int} (hz : Col z) : Col (gD x y s pix u v z) := by
  unfold gD
  split
  · exact ovr_bd _ _
  · exact hz

/-- A slice of numbers, in a world that has only grown since. -/

theorem col_of {k : List Int} {w : World} {a : Option Addr} {n c : Nat} (h : RdI .u32 w a n c k) {z : Int} (hz : z ∈ k) : Col z := by
  have := h.wf z hz
  simp [Lit.wf, IntKind.min, IntKind.max, IntKind.signed, IntKind.bits] at this
  unfold Col
  omega

set_option maxRecDepth 100000 in
theorem numbers_any (a : Option Addr) (n c : Nat) (pix : List Int) (w : World) (hr : RdI .u32 w a n c pix) (hs : n ≤ 400) (F m : Nat) (hF : F ≤ 9000000000000000000) (hm : m ≤ 48) :
    Calls Tryd.prog 39 #[.slice a n c, .int .i64 (F : Nat), .int .i64 (m : Nat)] w fun e w' => (∃ a', e = .returned (.slice a' (min (F + m) n - min F n) (min (F + m) n - min F n)) ∧ (0 < min (F + m) n - min F n → ∃ b' off, a = some ⟨b', off, none⟩ ∧ a' = some ⟨b', off + F, none⟩)) ∧ w' = w := by
  have hle := hr.le
  obtain ⟨f, hf⟩ : ∃ f, min F n = f := ⟨_, rfl⟩
  obtain ⟨t, ht⟩ : ∃ t, min (F + m) n = t := ⟨_, rfl⟩
  have e1 : min (F : Int) (n : Int) = (f : Int) := by omega
  have e2 : min ((F : Int) + (m : Int)) (n : Int) = (t : Int) := by omega
  have e3 : f ≤ t := by omega
  have e4 : t ≤ c := by omega
  have e5 : t ≤ n := by omega
  have HA : Hid (0 < t - f → ∃ b' off, a = some ⟨b', off, none⟩ ∧ f = F) := fun h => by
    obtain ⟨b', off, e, _⟩ := hr.plain (by omega)
    exact ⟨b', off, e, by omega⟩
  have HF := hid hf
  have HT := hid ht
  have hnil := hr.hnil
  rw [hf, ht]
  clear hr hf ht
  go_enter Tryd.func39, Tryd.ntmps39
  by_cases h0 : t = f
  · subst h0
    rw [Nat.sub_self]
    go_wp2
    go_ret
    exact ⟨⟨a, rfl, fun h => absurd h (by omega)⟩, rfl⟩
  · obtain ⟨b', off, rfl, hfF⟩ := HA.out (by omega)
    subst hfF
    go_wp2
    go_ret
    exact ⟨⟨_, rfl, fun _ => ⟨b', off, by simp, by simp⟩⟩, rfl⟩

theorem kk_eq {x y s : Int} {u v F i : Nat} (hF : ((v : Int) - y) * s + u - x = (F : Int)) : kk x y s ((u + i : Nat) : Int) v = F + i := by
  have : ((v : Int) - y) * s + ((u + i : Nat) : Int) - x = ((F + i : Nat) : Int) := by omega
  rw [kk, this]
  omega

theorem St.more {w0 w : World} {g : Int → Int → Int → Int} {d : Int → Int → Bool} {x y c n : Nat} (h : St w0 w p b W H g (adds d x c y) L) (hc : c ≤ n) (hg : ∀ i : Nat, c ≤ i → i < n → ∀ z, g ((x + i : Nat) : Int) y z = z) : St w0 w p b W H g (adds d x n y) L := by
  have e : trn W g (adds d x c y) L = trn W g (adds d x n y) L := trn_eq h.len fun u v _ _ z _ => by
    by_cases hv : (v : Int) = y ∧ (x + c : Nat) ≤ (u : Int) ∧ (u : Int) < (x + n : Nat)
    · obtain ⟨i, rfl⟩ : ∃ i, u = x + i := ⟨u - x, by omega⟩
      obtain rfl : v = y := by omega
      rw [hg i (by omega) (by omega) z, ite_self, ite_self]
    · have : adds d x c y u v = adds d x n y u v := by
        rw [adds, adds]
        congr 1
        rw [Bool.eq_iff_iff]
        simp only [Bool.and_eq_true, decide_eq_true_eq]
        omega
      rw [this]
  exact ⟨by rw [← e]; exact h.cv, h.kp⟩

set_option maxRecDepth 100000 in
set_option maxHeartbeats 4000000 in
theorem draw1_any (x0 y0 s : Int) (hx0 : -16777216 ≤ x0 ∧ x0 ≤ 16777216) (hy0 : -16777216 ≤ y0 ∧ y0 ≤ 16777216) (hs0 : 1 ≤ s ∧ s ≤ 16777216) (a : Option Addr) (m c : Nat) (pix : List Int) (hr : RdI .u32 w0 a m c pix) (hm : m ≤ 400) (hab : 0 < m → ∀ x, a = some x → x.block ≠ b)
    (q1 q2 q3 q4 : Nat) (h1 : w0.cell? ⟨q1, 0, none⟩ = some (.slice a m c)) (h2 : w0.cell? ⟨q2, 0, none⟩ = some (.int .i64 y0)) (h3 : w0.cell? ⟨q3, 0, none⟩ = some (.int .i64 s)) (h4 : w0.cell? ⟨q4, 0, none⟩ = some (.int .i64 x0))
    (n1 : q1 ≠ b) (n2 : q2 ≠ b) (n3 : q3 ≠ b) (n4 : q4 ≠ b) (P : Int → Int → Bool) (hP : ∀ u v, P u v = true → x0 ≤ u ∧ u < x0 + s ∧ y0 ≤ v) :
    Does 38 #[.pointer (some ⟨q1, 0, none⟩), .pointer (some ⟨q2, 0, none⟩), .pointer (some ⟨q3, 0, none⟩), .pointer (some ⟨q4, 0, none⟩)] w0 p b W H (gD x0 y0 s pix) P L := by
  intro d u x y n hS hxn hy hn hd hp
  have HS := hid hS
  have HD := hid hd
  have hW := hS.cv.hW
  have hH := hS.cv.hH
  have g0 := hP _ _ (hp 0 (by omega))
  have hlen := hr.len
  have c1 := hS.kp.cell h1 (by simpa using n1)
  have c2 := hS.kp.cell h2 (by simpa using n2)
  have c3 := hS.kp.cell h3 (by simpa using n3)
  have c4 := hS.kp.cell h4 (by simpa using n4)
  obtain ⟨o, ho⟩ : ∃ o, y * W + x = o := ⟨_, rfl⟩
  obtain ⟨dy, hdy⟩ : ∃ dy : Nat, (y : Int) - y0 = dy := ⟨((y : Int) - y0).toNat, by omega⟩
  obtain ⟨S, rfl⟩ : ∃ S : Nat, s = S := ⟨s.toNat, by omega⟩
  obtain ⟨M, hM⟩ : ∃ M, dy * S = M := ⟨_, rfl⟩
  have hMb : M ≤ 16777300 * 16777216 := by rw [← hM]; exact Nat.mul_le_mul (by omega) (by omega)
  have m1 : ((y : Int) - y0) * (S : Int) = (M : Int) := by rw [hdy, ← hM, Int.natCast_mul]
  obtain ⟨F, hF⟩ : ∃ F : Nat, (M : Int) + x - x0 = F := ⟨((M : Int) + x - x0).toNat, by omega⟩
  have hFb : F ≤ 9000000000000000000 := by omega
  have HKK : Hid (∀ i : Nat, kk x0 y0 S ((x + i : Nat) : Int) y = F + i) := fun i => kk_eq (by rw [m1]; exact hF)
  have HRX : Hid (∀ wr, Kp [b] w0 wr → RdI .u32 wr a m c pix) := fun wr hk => ⟨hr.len, hr.le, hr.max, hr.hnil, fun z hz j hj => by
    have h' := hr.cells z hz j hj
    obtain ⟨b', off, e, _⟩ := hr.plain (by omega)
    rw [hz] at e
    cases e
    rw [Go.WideShapes.add_plain] at h' ⊢
    exact hk.cell h' (by simpa using hab (by omega) _ hz), hr.wf⟩
  have HRC := hid (fun z hz => col_of hr (z := z) hz)
  have CN := hid (numbers_any a m c pix u (HRX.out u hS.kp) hm F n hFb (by omega))
  obtain ⟨k, hk⟩ : ∃ k, min (F + n) m - min F m = k := ⟨_, rfl⟩
  rw [hk] at CN
  have hkn : k ≤ n := by omega
  have hkm : ∀ i, i < k → F + i < m := fun i hi => by omega
  have HKM := hid hkm
  have HKN : Hid (∀ i : Nat, k ≤ i → i < n → pix[F + i]? = none) := fun i h1 h2 => List.getElem?_eq_none (by omega)
  rw [ho]
  clear hS hd hp hP h1 h2 h3 h4 hr hkm hdy hM
  show Calls Tryd.prog 38 #[.int .i64 (x : Nat), .int .i64 (y : Nat), .slice (some ⟨b, o, none⟩) n (W - x), .pointer (some ⟨q1, 0, none⟩), .pointer (some ⟨q2, 0, none⟩), .pointer (some ⟨q3, 0, none⟩), .pointer (some ⟨q4, 0, none⟩)] u _
  go_enter Tryd.func38, Tryd.ntmps38
  go_wp2_with fail
  refine CN.out.mono ?_
  rintro e w1 ⟨⟨a', rfl, ha'⟩, rfl⟩
  have HA' := hid ha'
  clear ha' CN
  go_wp2
  go_loopw [26] (fun cc wr => ∃ i : Nat, cc = .int .i64 i ∧ i ≤ k ∧ St w0 wr p b W H (gD x0 y0 S pix) (adds d x i y) L ∧ Kp [b] w1 wr) (fun cc _ => k - (numOf cc).toNat)
  case atStart => exact ⟨0, rfl, Nat.zero_le _, HS.out.congr (adds_zero x y), Kp.refl _ _⟩
  case round =>
    obtain ⟨i, rfl, hi, hS, hkp⟩ := hrel
    have HS1 := hid hS
    have HK := hid hkp
    by_cases hgo : i < k
    · have e1 : decide ((i : Int) < k) = true := decide_eq_true (by omega)
      have e2 : (i : Int) < k := by omega
      have e3 : (i : Int) < n := by omega
      obtain ⟨b', off, rfl, rfl⟩ := HA'.out (by omega)
      have hFi := HKM.out i hgo
      obtain ⟨v, hv⟩ : ∃ v, pix[F + i]? = some v := ⟨_, List.getElem?_eq_getElem (by omega)⟩
      have cv := (HRX.out wr hS.kp).cells _ rfl (F + i) hFi
      rw [Go.WideShapes.add_plain, List.getD, hv] at cv
      dsimp only [Option.getD] at cv
      rw [← Nat.add_assoc] at cv
      have hvc : Col v := HRC.out v (List.mem_of_getElem? hv)
      obtain ⟨z, hz, hzc, c0, fz, _⟩ := hS.at_ (n := n) hxn hy (by omega) HD.out
      rw [ho] at c0 fz
      have HG : Hid (ovr z v = gD x0 y0 S pix ((x + i : Nat) : Int) y z) := by
        rw [Hid, gD, HKK.out i, hv]
      have CO := hid (fun W => over_any z v hzc hvc W)
      have HZ := hid hz
      clear hS hkp hv hz
      go_wp2_with fail
      refine (CO.out _).mono ?_
      rintro e w2 ⟨rfl, hb2⟩
      have hS2 := HS1.out.on hb2
      have HK2 := hid (HK.out.trans (kp_of_below hb2 []) (by simp))
      obtain ⟨z', hz', hzc', c0', fz', hput⟩ := hS2.at_ (n := n) hxn hy (by omega) HD.out
      obtain rfl : z' = z := by
        rw [HZ.out] at hz'
        cases hz'
        rfl
      have HP := hid (hput _ HG.out (ovr_bd _ _))
      rw [ho] at c0' fz' HP
      clear hS2 hput hb2 c0 fz cv HS1 HK
      go_wp2
      go_roundw
      case rel => exact ⟨i + 1, by go_num, by omega, HP.out.1, HK2.out.trans HP.out.2 (fun k hk _ => hk)⟩
      case measure => simp [numOf]; omega
    · have e1 : decide ((i : Int) < k) = false := decide_eq_false (by omega)
      obtain rfl : i = k := by omega
      have HF : Hid (St w0 wr p b W H (gD x0 y0 S pix) (adds d x n y) L) := hS.more hkn fun j h1 h2 z => by
        rw [gD, HKK.out j, HKN.out j h1 h2]
      clear hS hkp
      go_wp2
      go_end0
      exact ⟨rfl, HF.out, HK.out⟩

theorem tooFar_any (n : Int) (w : World) : Calls Tryd.prog 37 #[.int .i64 n] w fun e w' => e = .returned (.bool (!(decide (-16777216 ≤ n) && decide (n ≤ 16777216)))) ∧ w' = w := by
  go_enter Tryd.func37, Tryd.ntmps37
  go_wp2_with fail
  refine (between_any (-16777216) n 16777216 _).mono ?_
  rintro e w1 ⟨rfl, rfl⟩
  go_wp2
  go_ret
  exact ⟨ret_bool (Bool.not_and _ _).symm, rfl⟩

/-- Whether anything is drawn. -/
def okD (x y s t : Int) : Bool := (decide (1 ≤ s) && decide (s ≤ 16777216)) && (decide (1 ≤ t) && decide (t ≤ 16777216)) && (decide (-16777216 ≤ x) && decide (x ≤ 16777216)) && (decide (-16777216 ≤ y) && decide (y ≤ 16777216))

/-- What Draw makes. -/
def drw (W : Nat) (x y s t : Int) (pix : List Int) (l : List Rc) (L : List Int) : List Int :=
  if okD x y s t then trn W (gD x y s pix) (fun u v => has ⟨x, y, s, t⟩ u v && inC l u v) L else L

theorem cut_area {x y s t : Int} (hW : 1 ≤ W ∧ W ≤ 48) (hH : 1 ≤ H ∧ H ≤ 48) (h : okD x y s t = true) : may (cut (ara W H) ⟨x, y, s, t⟩) = true ∧ (cut (ara W H) ⟨x, y, s, t⟩).Ok ∧ ∀ u v, has (cut (ara W H) ⟨x, y, s, t⟩) u v = (has (ara W H) u v && has ⟨x, y, s, t⟩ u v) := by
  simp only [okD, Bool.and_eq_true, decide_eq_true_eq] at h
  obtain ⟨⟨⟨⟨s1, s2⟩, t1, t2⟩, x1, x2⟩, y1, y2⟩ := h
  have hk := ara_ck hW hH
  have he : emp ⟨x, y, s, t⟩ = false := by
    rw [emp, Bool.or_eq_false_iff, decide_eq_false_iff_not, decide_eq_false_iff_not]
    dsimp only
    omega
  have e1 : en x s = x + s := by unfold en; rw [if_pos (by omega)]
  have e2 : en y t = y + t := by unfold en; rw [if_pos (by omega)]
  have hc : cut (ara W H) ⟨x, y, s, t⟩ = oft (max 0 x) (max 0 y) (min W (x + s)) (min H (y + t)) := by
    rw [cut_full hk.emp he, hk.enx, hk.eny, e1, e2]
    simp only [ara, Int.zero_add]
  rw [hc]
  by_cases h1 : min (W : Int) (x + s) ≤ max 0 x ∨ min (H : Int) (y + t) ≤ max 0 y
  · rw [oft, if_pos h1]
    refine ⟨may_rz, rz_ok, fun u v => ?_⟩
    rw [has_rz]
    symm
    rw [Bool.eq_false_iff]
    simp only [ne_eq, Bool.and_eq_true, has_iff, ara]
    omega
  · rw [oft, if_neg h1]
    have k : Ck ⟨max 0 x, max 0 y, min (W : Int) (x + s) - max 0 x, min (H : Int) (y + t) - max 0 y⟩ := ⟨by dsimp only; omega, by dsimp only; omega, by dsimp only; omega, by dsimp only; omega, by dsimp only; omega, by dsimp only; omega⟩
    refine ⟨may_of (.inr k), k.ok, fun u v => ?_⟩
    rw [Bool.eq_iff_iff]
    simp only [Bool.and_eq_true, has_iff, ara]
    omega

/-- The four boxes of Draw. -/
structure Bxs (w U : World) (x y s : Int) (v : Value) : Prop where
  bel : Below w.heap.size w U
  c8 : U.cell? ⟨w.heap.size, 0, none⟩ = some (.int .i64 x)
  c9 : U.cell? ⟨w.heap.size + 1, 0, none⟩ = some (.int .i64 y)
  c10 : U.cell? ⟨w.heap.size + 1 + 1, 0, none⟩ = some (.int .i64 s)
  c12 : U.cell? ⟨w.heap.size + 1 + 1 + 1, 0, none⟩ = some v
theorem bxs (w : World) (x y s : Int) (v : Value) : Bxs w ((((w.alloc (.cells #[.int .i64 x] 3)).alloc (.cells #[.int .i64 y] 3)).alloc (.cells #[.int .i64 s] 3)).alloc (.cells #[v] 25)) x y s v := by
  have h1 : Below w.heap.size w (w.alloc (.cells #[.int .i64 x] 3)) := below_new _ _
  have h2 := h1.alloc h1.size (.cells #[.int .i64 y] 3)
  have h3 := h2.alloc h2.size (.cells #[.int .i64 s] 3)
  have h4 := h3.alloc h3.size (.cells #[v] 25)
  exact ⟨h4, by go_simp, by go_simp, by go_simp, by go_simp⟩

theorem Bxs.on {w U U' : World} {x y s : Int} {v : Value} (h : Bxs w U x y s v) (hb : Below U.heap.size U U') : Bxs w U' x y s v :=
  ⟨Below.on h.bel hb, (kp_of_below hb []).cell h.c8 (by simp), (kp_of_below hb []).cell h.c9 (by simp), (kp_of_below hb []).cell h.c10 (by simp), (kp_of_below hb []).cell h.c12 (by simp)⟩

set_option maxRecDepth 100000 in
set_option maxHeartbeats 4000000 in
theorem cdraw_any (h : Cv 56 w p b W H L) (x y s t : Int) (hx : I64 x) (hy : I64 y) (hs : I64 s) (ht : I64 t) (a' : Option Addr) (m' c' : Nat) (pix : List Int) (hp : RdI .u32 w a' m' c' pix) (hm : m' ≤ 400) (hab : 0 < m' → ∀ x, a' = some x → x.block ≠ b) (a : Option Addr) (n c : Nat) (l : List Rc) (hr : RdC w a n c l) (hn : n ≤ 40) :
    Calls Tryd.prog 21 #[.pointer (some ⟨p, 0, none⟩), .int .i64 x, .int .i64 y, .int .i64 s, .int .i64 t, .slice a' m' c', .slice a n c] w fun e w' => e = .returned (.tuple #[]) ∧ Cv 56 w' p b W H (drw W x y s t pix l L) ∧ Kp [b] w w' := by
  have hlt := h.lt
  have HX := hid (bxs w x y s (.slice a' m' c'))
  have HC := hid (h.on HX.out.bel)
  have HR := hid (hr.on HX.out.bel)
  have HP := hid (hp.on HX.out.bel)
  have HW := hid (And.intro h.hW h.hH)
  have hl := h.len
  have HLE : Hid (trn W (gD x y s pix) (fun _ _ => false) L = L) := trn_none hl (fun _ _ _ _ => rfl)
  have HL := hid hl
  have hmf : ∀ (fn : Fn) (first cap : Array Value) (w : World), (Instr.makeFunc fn first cap).run Tryd.prog w = .ok (.func fn first cap) w := fun _ _ _ _ => rfl
  have C1 := hid (fun u => between_any 1 s 16777216 u)
  have C2 := hid (fun u => between_any 1 t 16777216 u)
  have C3 := hid (fun u => tooFar_any x u)
  have C4 := hid (fun u => tooFar_any y u)
  clear h hr hp hl
  go_enter Tryd.func21, Tryd.ntmps21
  go_wp2_with fail
  obtain ⟨U, HU⟩ : ∃ U, Hid (U = (((w.alloc (.cells #[.int .i64 x] 3)).alloc (.cells #[.int .i64 y] 3)).alloc (.cells #[.int .i64 s] 3)).alloc (.cells #[.slice a' m' c'] 25)) := ⟨_, rfl⟩
  rw [← HU.out] at HX HC HR HP
  rw [← HU.out]
  clear HU
  obtain ⟨hb, c8, c9, c10, c12⟩ := HX.out
  have HB := hid hb
  clear hb
  have no : okD x y s t = false → Hid (Cv 56 U p b W H (drw W x y s t pix l L) ∧ Kp [b] w U) := fun h => ⟨by rw [drw, if_neg (by rw [h]; decide)]; exact HC.out, kp_of_below HB.out [b]⟩
  cases h1 : decide (1 ≤ s) && decide (s ≤ 16777216)
  · have HF := no (by rw [okD, h1]; rfl)
    rw [h1] at C1
    refine (C1.out _).mono ?_
    rintro e u1 ⟨rfl, rfl⟩
    go_wp2
    refine bodyPost_ret (results_none rfl _ _ _) rfl ?_
    exact ⟨rfl, HF.out⟩
  rw [h1] at C1
  refine (C1.out _).mono ?_
  rintro e u1 ⟨rfl, rfl⟩
  cases h2 : decide (1 ≤ t) && decide (t ≤ 16777216)
  · have HF := no (by rw [okD, h1, h2]; rfl)
    rw [h2] at C2
    go_wp2_with fail
    refine (C2.out _).mono ?_
    rintro e u1 ⟨rfl, rfl⟩
    go_wp2
    refine bodyPost_ret (results_none rfl _ _ _) rfl ?_
    exact ⟨rfl, HF.out⟩
  rw [h2] at C2
  go_wp2_with fail
  refine (C2.out _).mono ?_
  rintro e u1 ⟨rfl, rfl⟩
  cases h3 : decide (-16777216 ≤ x) && decide (x ≤ 16777216)
  · have HF := no (by rw [okD, h1, h2, h3]; rfl)
    rw [h3] at C3
    go_wp2_with fail
    refine (C3.out _).mono ?_
    rintro e u1 ⟨rfl, rfl⟩
    go_wp2
    refine bodyPost_ret (results_none rfl _ _ _) rfl ?_
    exact ⟨rfl, HF.out⟩
  rw [h3] at C3
  go_wp2_with fail
  refine (C3.out _).mono ?_
  rintro e u1 ⟨rfl, rfl⟩
  cases h4 : decide (-16777216 ≤ y) && decide (y ≤ 16777216)
  · have HF := no (by rw [okD, h1, h2, h3, h4]; rfl)
    rw [h4] at C4
    go_wp2_with fail
    refine (C4.out _).mono ?_
    rintro e u1 ⟨rfl, rfl⟩
    go_wp2
    refine bodyPost_ret (results_none rfl _ _ _) rfl ?_
    exact ⟨rfl, HF.out⟩
  rw [h4] at C4
  go_wp2_with fail
  refine (C4.out _).mono ?_
  rintro e u1 ⟨rfl, rfl⟩
  have hok : okD x y s t = true := by rw [okD, h1, h2, h3, h4]; rfl
  obtain ⟨q1, q2, q3⟩ := cut_area HW.out.1 HW.out.2 hok
  have HEQ : Hid (trn W (gD x y s pix) (fun u v => has (cut (ara W H) ⟨x, y, s, t⟩) u v && inC l u v) L = drw W x y s t pix l L) := by
    rw [Hid, drw, if_pos hok]
    refine trn_congr HL.out fun u v hu hv => ?_
    rw [q3, has_ara HW.out.1.1 HW.out.2.1]
    have e1 : decide ((0 : Int) ≤ (u : Nat)) = true := decide_eq_true (by omega)
    have e2 : decide (((u : Nat) : Int) < W) = true := decide_eq_true (by omega)
    have e3 : decide ((0 : Int) ≤ (v : Nat)) = true := decide_eq_true (by omega)
    have e4 : decide (((v : Nat) : Int) < H) = true := decide_eq_true (by omega)
    rw [e1, e2, e3, e4]
    rfl
  have Q1 := hid q1
  have Q2 := hid q2
  have Q3 := hid q3
  have okr : (Rc.mk x y s t).Ok := ⟨hx, hy, hs, ht⟩
  simp only [Bool.and_eq_true, decide_eq_true_eq] at h1 h2 h3 h4
  clear no C1 C2 C3 C4 q1 q2 q3 hok
  go_wp2_with fail
  have hS : St u1 u1 p b W H (gD x y s pix) (fun _ _ => false) L := ⟨by rw [HLE.out]; exact HC.out, Kp.refl _ _⟩
  have hD := draw1_any (p := p) (W := W) (H := H) (L := L) (b := b) x y s h3 h4 h1 a' m' c' pix HP.out hm hab _ _ _ _ c12 c9 c10 c8 (by omega) (by omega) (by omega) (by omega) (has (cut (ara W H) ⟨x, y, s, t⟩)) (fun u v hh => by
    rw [Q3.out, Bool.and_eq_true] at hh
    have := has_iff.1 hh.2
    dsimp only at this
    omega)
  refine (each_any 38 _ (enters_of Tryd.func38 (by kernel_rfl) rfl) hS ⟨x, y, s, t⟩ hD okr Q1.out Q2.out a n c l HR.out hn (fun u v hh => by
    rw [Q3.out, Bool.and_eq_true] at hh
    exact hh.1)).mono ?_
  rintro e u2 ⟨rfl, hS2⟩
  have HC2 := hS2.cv
  rw [HEQ.out] at HC2
  have HK : Kp [b] w u2 := (kp_of_below HB.out [b]).trans hS2.kp (fun k hk _ => hk)
  clear hD hS hS2
  go_wp2
  go_end0
  exact ⟨rfl, HC2, HK⟩
end Go.Proofs.YtmiapccngeafkaaDoor

/- Points asked, a literal's row, awake of law 14. -/
namespace Go.Proofs.YtmiapccngeafkaaDoor
open Go Go.RowKit

variable {w w' x y : World} {p b W H : Nat} {L : List Int}

theorem bel_kp {B : Nat} {X : List Nat} (h : Below B w x) (hk : Kp X x y) (hB : B ≤ x.heap.size) (hX : ∀ k ∈ X, B ≤ k) : Below B w y := h.trans (hk.below hB hX)

theorem atv_at {i j : Nat} {z : Int} (hi : i < W) (hj : j < H) (hz : L[j * W + i]? = some z) : atv W H L i j = z := by
  rw [atv, has_ara (by omega) (by omega)]
  have e1 : decide ((0 : Int) ≤ (i : Nat)) = true := decide_eq_true (by omega)
  have e2 : decide (((i : Nat) : Int) < W) = true := decide_eq_true (by omega)
  have e3 : decide ((0 : Int) ≤ (j : Nat)) = true := decide_eq_true (by omega)
  have e4 : decide (((j : Nat) : Int) < H) = true := decide_eq_true (by omega)
  rw [e1, e2, e3, e4]
  simp [List.getD, hz]
theorem atv_no {i j : Int} (hW : 1 ≤ W) (hH : 1 ≤ H) (h : i < 0 ∨ W ≤ i ∨ j < 0 ∨ H ≤ j) : atv W H L i j = 0 := by
  have : has (ara W H) i j = false := by
    rw [has_ara hW hH, Bool.eq_false_iff]
    simp only [ne_eq, Bool.and_eq_true, decide_eq_true_eq]
    omega
  rw [atv, this]
  rfl
theorem fll_get {v : Int} {l : List Rc} {i j : Nat} (hi : i < W) : (fll W v l L)[j * W + i]? = L[j * W + i]?.map fun z => if inC l i j then v else z := trn_get hi
theorem fll_length (v : Int) (l : List Rc) : (fll W v l L).length = L.length := trn_length
theorem inC_one {r : Rc} (hk : Ck r) (i j : Int) : inC [r] i j = has r i j := by
  simp only [inC, List.any_cons, List.any_nil, Bool.or_false]
  rw [bnd_ck hk]

end Go.Proofs.YtmiapccngeafkaaDoor

/- Rows of colours that a call makes, as slices; what is drawn, point by point. -/
namespace Go.Proofs.YtmiapccngeafkaaDoor
open Go Go.RowKit

variable {w x y : World} {p b W H : Nat} {L : List Int}

theorem wf_col {z : Int} (h : Col z) : (Lit.int .u32 z).wf = true := by
  unfold Col at h
  simp [Lit.wf, IntKind.min, IntKind.max, IntKind.signed, IntKind.bits]
  omega
theorem rdw_of_owns {base e n : Nat} {v : Value} {zs : List Int} (h : w.ownsRow base e 1 v n (zs.map e32)) (hz : ∀ z ∈ zs, Col z) : ∃ a c, v = .slice a n c ∧ RdI .u32 w a n c zs ∧ ∀ x, a = some x → base ≤ x.block ∧ x.block < w.heap.size := by
  have hl : zs.length = n := by have := h.1; rw [List.length_map] at this; omega
  rcases h.2 with ⟨rfl, rfl⟩ | ⟨g, cap, cur, rfl, hb, hg, hn, hm, _, _⟩
  · obtain rfl : zs = [] := List.eq_nil_of_length_eq_zero hl
    exact ⟨none, 0, rfl, RdI.nil _ _, fun x hx => by cases hx⟩
  · refine ⟨some ⟨g, 0, none⟩, cap, rfl, ⟨hl, hn, hm, (fun h => by cases h), fun x hx j hj => ?_, fun z h => wf_col (hz z h)⟩, fun x hx => ?_⟩
    · cases hx
      rw [h.cells rfl j (.int .u32 (zs.getD j 0)) (by rw [List.getElem?_map, List.getElem?_eq_getElem (by omega), List.getD, List.getElem?_eq_getElem (by omega)]; rfl)]
    · cases hx
      exact ⟨hb, (Array.getElem?_eq_some_iff.1 hg).1⟩
theorem fits4 {need : Nat} (h : need ≤ 2000000000) : ∀ old, old < need → Builtin.nextslicecap need old * 4 ≤ 281474976710656 := fun old ho => by
  have := nextslicecap_near ho
  omega
theorem RdI.src32 {P : Program} {a : Option Addr} {n c : Nat} {zs : List Int} (h : RdI .u32 w a n c zs) {t e : TypeId} (ht : P.underlying t = some (.slice e)) : Src P 1 t (.slice a n c) n (zs.map e32) w := by
  have hl := h.len
  cases a with
  | none =>
    have h1 := h.hnil rfl
    have h2 := h.le
    obtain rfl : n = 0 := by omega
    obtain rfl : zs = [] := List.eq_nil_of_length_eq_zero hl
    exact Src.ofNil w ht c
  | some x =>
    refine Src.ofSlice w ht x n c (zs.map e32) (by rw [List.length_map, hl, Nat.mul_one]) (fun j u hu => ?_) (fun u hu => ?_)
    · rw [List.getElem?_map] at hu
      obtain ⟨z, hz, rfl⟩ := Option.map_eq_some_iff.1 hu
      have hj := (List.getElem?_eq_some_iff.1 hz).1
      rw [h.cells x rfl j (by omega), List.getD, hz]
      rfl
    · obtain ⟨_, _, rfl⟩ := List.mem_map.1 hu
      rfl

theorem drw_get {x y s t : Int} {pix : List Int} {l : List Rc} {i j : Nat} (hok : okD x y s t = true) (hi : i < W) : (drw W x y s t pix l L)[j * W + i]? = L[j * W + i]?.map fun z => if has ⟨x, y, s, t⟩ i j && inC l i j then gD x y s pix i j z else z := by
  rw [drw, if_pos hok, trn_get hi]
theorem drw_length {x y s t : Int} {pix : List Int} {l : List Rc} : (drw W x y s t pix l L).length = L.length := by
  unfold drw
  split
  · exact trn_length
  · rfl
end Go.Proofs.YtmiapccngeafkaaDoor

/- Colours: the document's own answers. -/
namespace Go.Proofs.YtmiapccngeafkaaDoor
open Go Go.RowKit

theorem and8 {x : Int} (h : 0 ≤ x ∧ x < 4294967296) : bits .and .u32 x 255 = x % 256 :=
  bits_mask .u32 32 (by decide) wraps_u32 8 (by decide) x h.1 h.2
theorem and24 {x : Int} (h : 0 ≤ x ∧ x < 4294967296) : bits .and .u32 x 16777215 = x % 16777216 :=
  bits_mask .u32 32 (by decide) wraps_u32 24 (by decide) x h.1 h.2






end Go.Proofs.YtmiapccngeafkaaDoor

/- The document's canvas: New, In, Fill, Draw; law 0's Rects, Words, SameWords. -/
namespace Go.Proofs.YtmiapccngeafkaaDoor
open Go Go.RowKit

variable {w w' x y : World} {p b W H : Nat} {L : List Int} {g : Int → Int → Int → Int} {D : Int → Int → Bool}

/-- Those of D that are ahead of (x, y), row by row. -/
def dR (D : Int → Int → Bool) (y x : Int) (u v : Int) : Bool := D u v && (decide (v < y) || (decide (v = y) && decide (u < x)))

theorem dR_start (hL : L.length = W * H) : trn W g (dR D 0 0) L = L := trn_none hL fun u v _ _ => by
  rw [dR, Bool.eq_false_iff]
  simp only [ne_eq, Bool.and_eq_true, Bool.or_eq_true, decide_eq_true_eq]
  omega
theorem dR_row (hL : L.length = W * H) (y : Nat) : trn W g (dR D y W) L = trn W g (dR D (y + 1 : Nat) 0) L := trn_congr hL fun u v hu _ => by
  rw [dR, dR]
  congr 1
  rw [Bool.eq_iff_iff]
  simp only [Bool.and_eq_true, Bool.or_eq_true, decide_eq_true_eq]
  omega
theorem dR_end (hL : L.length = W * H) : trn W g (dR D H 0) L = trn W g D L := trn_congr hL fun u v _ hv => by
  rw [dR, decide_eq_true (show ((v : Nat) : Int) < (H : Int) by omega), Bool.true_or, Bool.and_true]
theorem dR_step {x y : Nat} (hd : D x y = true) (u v : Int) : add1 (dR D y x) x y u v = dR D y (x + 1 : Nat) u v := by
  rw [Bool.eq_iff_iff]
  simp only [add1, dR, Bool.and_eq_true, Bool.or_eq_true, decide_eq_true_eq]
  constructor
  · rintro (⟨h1, h2⟩ | ⟨rfl, rfl⟩)
    · exact ⟨h1, by omega⟩
    · exact ⟨hd, by omega⟩
  · rintro ⟨h1, h2⟩
    by_cases h : u = x ∧ v = y
    · exact .inr h
    · exact .inl ⟨h1, by omega⟩
theorem dR_none {x y : Nat} (hd : D x y = false) : dR D y x = dR D y (x + 1 : Nat) := by
  funext u v
  rw [Bool.eq_iff_iff]
  simp only [dR, Bool.and_eq_true, Bool.or_eq_true, decide_eq_true_eq]
  constructor
  · rintro ⟨h1, h2⟩
    exact ⟨h1, by omega⟩
  · rintro ⟨h1, h2⟩
    refine ⟨h1, ?_⟩
    by_cases h : u = x ∧ v = y
    · rw [h.1, h.2, hd] at h1
      cases h1
    · omega
theorem dR_same {x y : Nat} {z : Int} (hL : L.length = W * H) (hx : x < W) (hz : L[y * W + x]? = some z) (hg : g x y z = z) : trn W g (dR D y x) L = trn W g (dR D y (x + 1 : Nat)) L := trn_eq hL fun u v _ _ t ht => by
  by_cases h : u = x ∧ v = y
  · obtain ⟨rfl, rfl⟩ := h
    rw [hz] at ht
    cases ht
    rw [hg, ite_self, ite_self]
  · have : dR D y x u v = dR D y (x + 1 : Nat) u v := by
      rw [dR, dR]
      congr 1
      rw [Bool.eq_iff_iff]
      simp only [Bool.and_eq_true, Bool.or_eq_true, decide_eq_true_eq]
      omega
    rw [this]
/-- A point that is not yet turned. -/
theorem dR_val {x y : Nat} (hx : x < W) : (trn W g (dR D y x) L)[y * W + x]? = L[y * W + x]? := by
  have : dR D y x x y = false := by
    rw [dR, Bool.eq_false_iff]
    simp only [ne_eq, Bool.and_eq_true, Bool.or_eq_true, decide_eq_true_eq]
    omega
  rw [trn_get hx, this]
  cases L[y * W + x]? <;> rfl

/-- A point turned, in the canvas. -/
theorem Cv.put {ty : Nat} {x y : Nat} {z t : Int} (h : Cv ty w p b W H (trn W g (dR D y x) L)) (hx : x < W) (hy : y < H) (hd : D x y = true) (hz : L[y * W + x]? = some z) (ht : t = g x y z) (hc : Col t) : Cv ty (w.setCell ⟨b, y * W + x, none⟩ (.int .u32 t)) p b W H (trn W g (dR D y (x + 1 : Nat)) L) := by
  have hL : L.length = W * H := by
    have := h.len
    rwa [trn_length] at this
  have hs := h.set (y * W + x) hc
  rw [ht, trn_set hL hx hy hz, show add1 (dR D y x) x y = dR D y (x + 1 : Nat) from funext fun u => funext fun v => dR_step hd u v, ← ht] at hs
  exact hs

theorem bnd_okay (q : Rc) : (bnd q).Ok := by
  rcases bnd_cases q with h' | h'
  · rw [bnd_rz h']
    exact rz_ok
  · exact h'.ok



set_option maxRecDepth 100000 in
theorem rin14_any (a : Option Addr) (n c : Nat) (l : List Rc) (w : World) (h : RdC w a n c l) (x y : Int) (hx : I64 x) (hy : I64 y) :
    Calls Tryd.prog 6 #[.slice a n c, .int .i64 x, .int .i64 y] w fun e w' => e = .returned (.bool (inC l x y)) ∧ Below w.heap.size w w' := by
  have hs := h.small
  have HL := hid h.len
  have HR := hid h
  clear h
  go_enter Tryd.func6, Tryd.ntmps6
  go_wp2
  go_loopw [7] (fun t wr => ∃ i : Nat, t = .int .i64 i ∧ i ≤ n ∧ (∀ k r, k < i → l[k]? = some r → has (bnd r) x y = false) ∧ RowKit.Below w.heap.size w wr) (fun t _ => n - (numOf t).toNat)
  case atStart => exact ⟨0, rfl, by omega, fun k r hk => absurd hk (by omega), Below.refl _ _⟩
  case round =>
    obtain ⟨i, rfl, hi, hN, hb⟩ := hrel
    have HN := hid hN
    have HB := hid hb
    clear hN hb
    by_cases hgo : i < n
    · have e1 : decide ((i : Int) < n) = true := decide_eq_true (by omega)
      have e3 : (i : Int) < n := by omega
      obtain ⟨b, off, r, rfl, _, hr, ok, he⟩ := (HR.out.on HB.out).el hgo
      obtain ⟨_, c0, c1, c2, c3⟩ := he
      have HQ := hid hr
      have CB := hid (fun u => rbound_any r ok u)
      have CH := hid (fun u => rhas_any (bnd r) (bnd_okay r) x y hx hy u)
      clear hr
      go_wp2_with fail
      refine (CB.out _).mono ?_
      rintro e w2 ⟨rfl, hb2⟩
      have HB2 := hid (Below.on HB.out hb2)
      clear hb2
      cases hq : has (bnd r) x y
      · rw [hq] at CH
        have HN2 : Hid (∀ k r', k < i + 1 → l[k]? = some r' → has (bnd r') x y = false) := fun k r' hk hr' => by
          rcases Nat.lt_or_ge k i with h | h
          · exact HN.out k r' h hr'
          · obtain rfl : k = i := by omega
            rw [HQ.out] at hr'
            cases hr'
            exact hq
        go_wp2_with fail
        refine (CH.out _).mono ?_
        rintro e w3 ⟨rfl, hb3⟩
        have HB3 := hid (Below.on HB2.out hb3)
        clear hb3
        go_wp2
        go_roundw
        case rel => exact ⟨i + 1, by go_num, by omega, HN2.out, HB3.out⟩
        case measure => simp [numOf]; omega
      · rw [hq] at CH
        have HI : Hid (inC l x y = true) := by
          rw [Hid, inC, List.any_eq_true]
          exact ⟨r, List.mem_of_getElem? HQ.out, hq⟩
        go_wp2_with fail
        refine (CH.out _).mono ?_
        rintro e w3 ⟨rfl, hb3⟩
        have HB3 := hid (Below.on HB2.out hb3)
        clear hb3
        go_wp2
        go_ret
        rw [HI.out]
        exact ⟨rfl, HB3.out⟩
    · have e1 : decide ((i : Int) < n) = false := decide_eq_false (by omega)
      have HI : Hid (inC l x y = false) := by
        rw [Hid, inC, List.any_eq_false]
        intro r hr
        obtain ⟨k, hk⟩ := List.getElem?_of_mem hr
        have hkl := (List.getElem?_eq_some_iff.1 hk).1
        have := HL.out
        rw [HN.out k r (by omega) hk]
        decide
      go_wp2
      go_ret
      rw [HI.out]
      exact ⟨rfl, HB.out⟩


end Go.Proofs.YtmiapccngeafkaaDoor

/- The document's Draw. -/
namespace Go.Proofs.YtmiapccngeafkaaDoor
open Go Go.RowKit

variable {w w' : World} {p b W H : Nat} {L : List Int}

theorem RdI.kept {k : IntKind} {a : Option Addr} {n c : Nat} {zs : List Int} {X : List Nat} (h : RdI k w a n c zs) (hk : Kp X w w') (hab : 0 < n → ∀ x, a = some x → x.block ∉ X) : RdI k w' a n c zs :=
  ⟨h.len, h.le, h.max, h.hnil, fun z hz j hj => by
    have h' := h.cells z hz j hj
    obtain ⟨b', off, e, _⟩ := h.plain (by omega)
    rw [hz] at e
    cases e
    rw [Go.WideShapes.add_plain] at h' ⊢
    exact hk.cell h' (show b' ∉ X from hab (by omega) _ hz), h.wf⟩

end Go.Proofs.YtmiapccngeafkaaDoor

/- Law 0's Rects, Words, SameWords; both canvases. -/
namespace Go.Proofs.YtmiapccngeafkaaDoor
open Go Go.RowKit

variable {w w' x y : World}

theorem infoRc : (Tryd.prog.info? 24).map (fun i => (i.zero, i.size, i.bytes)) = some (some (.agg #[.int .i64 0, .int .i64 0, .int .i64 0, .int .i64 0]), 4, 32) := by kernel_rfl
theorem infoRcp : ∃ i, Tryd.prog.info? 24 = some i ∧ i.zero = some (.agg #[.int .i64 0, .int .i64 0, .int .i64 0, .int .i64 0]) ∧ i.size = 4 ∧ i.bytes = 32 := by
  obtain ⟨i, h1, h2⟩ := Option.map_eq_some_iff.1 infoRc
  simp only [Prod.mk.injEq] at h2
  exact ⟨i, h1, h2.1, h2.2.1, h2.2.2⟩

set_option maxRecDepth 100000 in
theorem words_any (s : Option Addr) (n c : Nat) (l : List Int) (hr : RdI .u32 w s n c l) (hn : n ≤ 1000) :
    Calls Tryd.prog 5 #[.slice s n c] w fun e w' => ∃ a c', e = .returned (.slice a n c') ∧ RdI .u32 w' a n c' l ∧ (∀ x, a = some x → w.heap.size ≤ x.block) ∧ Below w.heap.size w w' := by
  obtain ⟨i0, hi, hz0, hz1, hz2⟩ := info32p
  have HS := hid (hr.src32 (P := Tryd.prog) (t := 25) (e := 22) Tryd.underlying25)
  have HO := hid (World.ownsRow_nil w w.heap.size 22 1)
  have HK := hid (fun z hz => col_of hr (z := z) hz)
  clear hr
  go_enter Tryd.func5, Tryd.ntmps5
  go_wp2_with (at_builtin; refine wpList_append_own_src _ rfl (.const (.slice none 0 0)) (.tmp 3) 25 25 rfl w.heap.size 22 i0 (.int .u32 0) 1 4 Tryd.underlying25 hi hz0 hz1 hz2 rfl _ _ _ rfl HO.out _ _ _ rfl HS.out (by simp only [maxLen]; omega) (fits4 (by omega)) (Nat.le_refl _) ?_; intro v3 w3 o3 g3; have HO3 := hid o3; have HG3 := hid g3; clear o3 g3)
  go_ret
  have h3 := HO3.out
  rw [Nat.zero_add, List.nil_append] at h3
  obtain ⟨a, c', rfl, hR, hab⟩ := rdw_of_owns h3 HK.out
  exact ⟨a, c', rfl, hR, fun x hx => (hab x hx).1, (kp_of_grown HG3.out).below (Nat.le_refl _) (fun k hk => by cases hk)⟩

set_option maxRecDepth 100000 in
set_option maxHeartbeats 1000000 in
theorem samew_any (a : Option Addr) (n c : Nat) (a' : Option Addr) (c' : Nat) (l : List Int) (w : World) (hr : RdI .u32 w a n c l) (hr' : RdI .u32 w a' n c' l) (hn : n ≤ 1000000) :
    Calls Tryd.prog 13 #[.slice a n c, .slice a' n c'] w fun e w' => e = .returned (.bool true) ∧ Below w.heap.size w w' := by
  have HR := hid hr
  have HR' := hid hr'
  have n1 : ((n : Int) != n) = false := by simp
  clear hr hr'
  go_enter Tryd.func13, Tryd.ntmps13
  go_wp2
  go_loopw [5] (fun i wr => ∃ j : Nat, j ≤ n ∧ i = .int .i64 j ∧ ∃ r, wr = w.drewN r) (fun i _ => n - (numOf i).toNat)
  case atStart => exact ⟨0, Nat.zero_le _, rfl, 0, rfl⟩
  case round =>
    obtain ⟨j, hj, rfl, r, rfl⟩ := hrel
    by_cases hlt : j < n
    · obtain ⟨g, o, rfl, _, hc⟩ := HR.out.plain (by omega)
      obtain ⟨g', o', rfl, _, hc'⟩ := HR'.out.plain (by omega)
      have hlen := HR.out.len
      have c0 := hc j (by omega)
      have d0 := hc' j (by omega)
      obtain ⟨z, hz⟩ : ∃ z, l.getD j 0 = z := ⟨_, rfl⟩
      rw [hz] at c0 d0
      have n2 : (z != z) = false := by simp
      clear hz hc hc' hlen
      have hlt' : (j : Int) < n := by omega
      go_wp2
      go_quiet (fail)
      go_wp2
      go_roundw
      case rel => exact ⟨j + 1, by omega, by go_num, _, rfl⟩
      case measure => simp [numOf]; omega
    · go_wp2
      go_ret
      exact ⟨rfl, below_drewN (Below.refl _ _) _⟩

variable {p b q d W H : Nat} {L M : List Int}

/-- A row that was there at w lies apart from what is made since. -/
theorem rdi_low {a : Option Addr} {n c : Nat} {zs : List Int} (h : RdI .u32 w a n c zs) {B : Nat} (hB : w.heap.size ≤ B) : 0 < n → ∀ x, a = some x → x.block ≠ B := fun hn x hx => by
  obtain ⟨b', off, e, hb, _⟩ := h.plain hn
  rw [hx] at e
  cases e
  dsimp only
  omega

theorem Cv.rdi {ty : Nat} (h : Cv ty x p b W H L) : RdI .u32 x (some ⟨b, 0, none⟩) (W * H) (W * H) L :=
  ⟨h.len, Nat.le_refl _, by have := h.small; simp only [maxLen]; omega, (fun e => by cases e), fun z hz j hj => by
    cases hz
    rw [Go.WideShapes.add_plain, Nat.zero_add]
    have hl := h.len
    rw [h.cell (List.getElem?_eq_getElem (by omega)), List.getD, List.getElem?_eq_getElem (by omega)]
    rfl, fun z hz => wf_col (h.col z hz)⟩

end Go.Proofs.YtmiapccngeafkaaDoor
