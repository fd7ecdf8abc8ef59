/- Law 0's Rects, Words, SameWords; both canvases; play: whatever the calls, both have the same points behind them. -/
import Derived.Test.YtldnggokkkhihaaDoorCanJ
import Derived.Test.YtldnggokkkhihaaDoorOpn14
import Derived.Test.YtldnggokkkhihaaDoorLibP
namespace Go.Proofs.YtldnggokkkhihaaDoor
open Go Go.RowKit

variable {w w' x y : World}

theorem infoRc : (Tryd.prog.info? 44).map (fun i => (i.zero, i.size, i.bytes)) = some (some (.agg #[.int .i64 0, .int .i64 0, .int .i64 0, .int .i64 0]), 4, 32) := by kernel_rfl
theorem infoRcp : ∃ i, Tryd.prog.info? 44 = some i ∧ i.zero = some (.agg #[.int .i64 0, .int .i64 0, .int .i64 0, .int .i64 0]) ∧ i.size = 4 ∧ i.bytes = 32 := by
  obtain ⟨i, h1, h2⟩ := Option.map_eq_some_iff.1 infoRc
  simp only [Prod.mk.injEq] at h2
  exact ⟨i, h1, h2.1, h2.2.1, h2.2.2⟩
set_option maxRecDepth 100000 in
theorem rects_any (s : Option Addr) (n c : Nat) (l : List Rc) (hr : RdC w s n c l) (hn : n ≤ 1000) :
    Calls Tryd.prog 21 #[.slice s n c] w (Ret w l) := by
  obtain ⟨i0, hi, hz0, hz1, hz2⟩ := infoRcp
  have HS := hid (hr.src (P := Tryd.prog) (t := 37) (e := 44) Tryd.underlying37)
  have HO := hid (World.ownsRow_nil w w.heap.size 44 4)
  have HL := hid hr.len
  have HK := hid hr.ok
  clear hr
  go_enter Tryd.func21, Tryd.ntmps21
  go_wp2_with (at_builtin; refine wpList_append_own_src _ rfl (.const (.slice none 0 0)) (.tmp 3) 37 37 rfl w.heap.size 44 i0 (.agg #[.int .i64 0, .int .i64 0, .int .i64 0, .int .i64 0]) 4 32 Tryd.underlying37 hi hz0 hz1 hz2 rfl _ _ _ rfl HO.out _ _ _ rfl HS.out (by simp only [maxLen]; omega) (fits32 (by omega)) (Nat.le_refl _) ?_; intro v3 w3 o3 g3; have HO3 := hid o3; have HG3 := hid g3; clear o3 g3)
  go_ret
  have h3 := HO3.out
  rw [Nat.zero_add, List.nil_append] at h3
  obtain ⟨a, c', rfl, hR⟩ := rdc_of_owns h3 HK.out
  refine ⟨a, c', ?_, ?_, (kp_of_grown HG3.out).below (Nat.le_refl _) (fun k hk => by cases hk)⟩
  · rw [HL.out]
    rfl
  · rw [HL.out]
    exact hR

set_option maxRecDepth 100000 in
theorem words_any (s : Option Addr) (n c : Nat) (l : List Int) (hr : RdI .u32 w s n c l) (hn : n ≤ 1000) :
    Calls Tryd.prog 23 #[.slice s n c] w fun e w' => ∃ a c', e = .returned (.slice a n c') ∧ RdI .u32 w' a n c' l ∧ (∀ x, a = some x → w.heap.size ≤ x.block) ∧ Below w.heap.size w w' := by
  obtain ⟨i0, hi, hz0, hz1, hz2⟩ := info32p
  have HS := hid (hr.src32 (P := Tryd.prog) (t := 36) (e := 35) Tryd.underlying36)
  have HO := hid (World.ownsRow_nil w w.heap.size 35 1)
  have HK := hid (fun z hz => col_of hr (z := z) hz)
  clear hr
  go_enter Tryd.func23, Tryd.ntmps23
  go_wp2_with (at_builtin; refine wpList_append_own_src _ rfl (.const (.slice none 0 0)) (.tmp 3) 36 36 rfl w.heap.size 35 i0 (.int .u32 0) 1 4 Tryd.underlying36 hi hz0 hz1 hz2 rfl _ _ _ rfl HO.out _ _ _ rfl HS.out (by simp only [maxLen]; omega) (fits4 (by omega)) (Nat.le_refl _) ?_; intro v3 w3 o3 g3; have HO3 := hid o3; have HG3 := hid g3; clear o3 g3)
  go_ret
  have h3 := HO3.out
  rw [Nat.zero_add, List.nil_append] at h3
  obtain ⟨a, c', rfl, hR, hab⟩ := rdw_of_owns h3 HK.out
  exact ⟨a, c', rfl, hR, fun x hx => (hab x hx).1, (kp_of_grown HG3.out).below (Nat.le_refl _) (fun k hk => by cases hk)⟩

set_option maxRecDepth 100000 in
set_option maxHeartbeats 1000000 in
theorem samew_any (a : Option Addr) (n c : Nat) (a' : Option Addr) (c' : Nat) (l : List Int) (w : World) (hr : RdI .u32 w a n c l) (hr' : RdI .u32 w a' n c' l) (hn : n ≤ 1000000) :
    Calls Tryd.prog 25 #[.slice a n c, .slice a' n c'] w fun e w' => e = .returned (.bool true) ∧ Below w.heap.size w w' := by
  have HR := hid hr
  have HR' := hid hr'
  have n1 : ((n : Int) != n) = false := by simp
  clear hr hr'
  go_enter Tryd.func25, Tryd.ntmps25
  go_wp2
  go_loopw [5] (fun i wr => ∃ j : Nat, j ≤ n ∧ i = .int .i64 j ∧ ∃ r, wr = w.drewN r) (fun i _ => n - (numOf i).toNat)
  case atStart => exact ⟨0, Nat.zero_le _, rfl, 0, rfl⟩
  case round =>
    obtain ⟨j, hj, rfl, r, rfl⟩ := hrel
    by_cases hlt : j < n
    · obtain ⟨g, o, rfl, _, hc⟩ := HR.out.plain (by omega)
      obtain ⟨g', o', rfl, _, hc'⟩ := HR'.out.plain (by omega)
      have hlen := HR.out.len
      have c0 := hc j (by omega)
      have d0 := hc' j (by omega)
      obtain ⟨z, hz⟩ : ∃ z, l.getD j 0 = z := ⟨_, rfl⟩
      rw [hz] at c0 d0
      have n2 : (z != z) = false := by simp
      clear hz hc hc' hlen
      have hlt' : (j : Int) < n := by omega
      go_wp2
      go_quiet (fail)
      go_wp2
      go_roundw
      case rel => exact ⟨j + 1, by omega, by go_num, _, rfl⟩
      case measure => simp [numOf]; omega
    · go_wp2
      go_ret
      exact ⟨rfl, below_drewN (Below.refl _ _) _⟩

theorem Cl.Ok.on {o : Cl} (h : o.Ok w) (hb : Below w.heap.size w w') : o.Ok w' := ⟨h.k, h.x, h.y, h.s, h.t, h.v, h.pix.on hb, h.clip.on hb⟩

/-- The call at q. -/
structure Oc (x : World) (q : Nat) (o : Cl) : Prop where
  obj : x.heap[q]? = some (.cells o.cells.toArray 39 (0, 0))
theorem Oc.cell {q : Nat} {o : Cl} (h : Oc x q o) {i : Nat} {v : Value} (hi : o.cells[i]? = some v) : x.cell? ⟨q, i, none⟩ = some v := by
  rw [Lib.cell_of_heap h.obj]
  simpa using hi
theorem Oc.all {q : Nat} {o : Cl} (h : Oc x q o) : x.cell? ⟨q, 0, none⟩ = some (.int .i64 o.k) ∧ x.cell? ⟨q, 1, none⟩ = some (.int .i64 o.x) ∧ x.cell? ⟨q, 2, none⟩ = some (.int .i64 o.y) ∧ x.cell? ⟨q, 3, none⟩ = some (.int .i64 o.s) ∧ x.cell? ⟨q, 4, none⟩ = some (.int .i64 o.t) ∧ x.cell? ⟨q, 5, none⟩ = some (.int .u32 o.v) ∧ x.cell? ⟨q, 6, none⟩ = some (.slice o.a o.m o.c) ∧ x.cell? ⟨q, 7, none⟩ = some (.slice o.a' o.n o.c') :=
  ⟨h.cell rfl, h.cell rfl, h.cell rfl, h.cell rfl, h.cell rfl, h.cell rfl, h.cell rfl, h.cell rfl⟩
theorem Oc.kept {q : Nat} {o : Cl} {X : List Nat} (h : Oc x q o) (hk : Kp X x y) (hn : q ∉ X) : Oc y q o := ⟨hk.var h.obj hn⟩
theorem Oc.on {q : Nat} {o : Cl} (h : Oc x q o) (hb : Below x.heap.size x y) : Oc y q o := h.kept (kp_of_below hb []) (by simp)
theorem oc_new (w : World) (o : Cl) : Oc (w.alloc (.cells #[.int .i64 o.k, .int .i64 o.x, .int .i64 o.y, .int .i64 o.s, .int .i64 o.t, .int .u32 o.v, .slice o.a o.m o.c, .slice o.a' o.n o.c'] 39)) w.heap.size o := ⟨heap_alloc_new w _⟩

/-- The program's canvas at p (L), the document's at q (M), both made since w. -/
structure Bo (w x : World) (p b q d W H : Nat) (L M : List Int) : Prop where
  cv : Cv 55 x p b W H L
  dv : Cv 57 x q d W H M
  qb : q ≠ b
  db : d ≠ b
  pd : p ≠ d
  lob : w.heap.size ≤ b
  lod : w.heap.size ≤ d
  bel : Below w.heap.size w x

variable {p b q d W H : Nat} {L M : List Int}

theorem Bo.on (h : Bo w x p b q d W H L M) (hb : Below x.heap.size x y) : Bo w y p b q d W H L M := ⟨h.cv.on hb, h.dv.on hb, h.qb, h.db, h.pd, h.lob, h.lod, Below.on h.bel hb⟩
/-- The program's is turned. -/
theorem Bo.one (h : Bo w x p b q d W H L M) (hk : Kp [b] x y) {L' : List Int} (hc : Cv 55 y p b W H L') : Bo w y p b q d W H L' M :=
  ⟨hc, h.dv.kept hk (by simpa using h.qb) (by simpa using h.db), h.qb, h.db, h.pd, h.lob, h.lod, bel_kp h.bel hk h.bel.size (fun k hk => by
    simp only [List.mem_cons, List.not_mem_nil, or_false] at hk
    rw [hk]
    exact h.lob)⟩
/-- The document's is turned. -/
theorem Bo.two (h : Bo w x p b q d W H L M) (hk : Kp [d] x y) {M' : List Int} (hc : Cv 57 y q d W H M') : Bo w y p b q d W H L M' :=
  ⟨h.cv.kept hk (by simpa using h.pd) (by simpa using fun e => h.db e.symm), hc, h.qb, h.db, h.pd, h.lob, h.lod, bel_kp h.bel hk h.bel.size (fun k hk => by
    simp only [List.mem_cons, List.not_mem_nil, or_false] at hk
    rw [hk]
    exact h.lod)⟩

/-- A row that was there at w lies apart from what is made since. -/
theorem rdi_low {a : Option Addr} {n c : Nat} {zs : List Int} (h : RdI .u32 w a n c zs) {B : Nat} (hB : w.heap.size ≤ B) : 0 < n → ∀ x, a = some x → x.block ≠ B := fun hn x hx => by
  obtain ⟨b', off, e, hb, _⟩ := h.plain hn
  rw [hx] at e
  cases e
  dsimp only
  omega

theorem Cv.rdi {ty : Nat} (h : Cv ty x p b W H L) : RdI .u32 x (some ⟨b, 0, none⟩) (W * H) (W * H) L :=
  ⟨h.len, Nat.le_refl _, by have := h.small; simp only [maxLen]; omega, (fun e => by cases e), fun z hz j hj => by
    cases hz
    rw [Go.WideShapes.add_plain, Nat.zero_add]
    have hl := h.len
    rw [h.cell (List.getElem?_eq_getElem (by omega)), List.getD, List.getElem?_eq_getElem (by omega)]
    rfl, fun z hz => wf_col (h.col z hz)⟩

theorem Oc.drew {Q : Nat} {o : Cl} (h : Oc x Q o) : Oc x.drew Q o := ⟨h.obj⟩

set_option maxRecDepth 100000 in
set_option maxHeartbeats 8000000 in
theorem play_any (hB : Bo w x p b q d W H L L) (a : Option Addr) (n c : Nat) (hO : RdO w a n c) :
    Calls Tryd.prog 11 #[.pointer (some ⟨p, 0, none⟩), .pointer (some ⟨q, 0, none⟩), .slice a n c] x fun e y => e = .returned (.bool true) ∧ ∃ L', Bo w y p b q d W H L' L' := by
  have HB := hid hB
  have HO := hid hO
  have hnm : n ≤ 9223372036854775807 := by have h1 := hO.le; have h2 := hO.max; simp only [maxLen] at h2; omega
  clear hB hO
  go_enter Tryd.func11, Tryd.ntmps11
  go_wp2
  go_loopw [7] (fun i wr => ∃ (j : Nat) (L : List Int), i = .int .i64 j ∧ j ≤ n ∧ j ≤ 15 ∧ Bo w wr p b q d W H L L) (fun i _ => 15 - (numOf i).toNat)
  case atStart => exact ⟨0, L, rfl, Nat.zero_le _, by omega, HB.out⟩
  case round =>
    obtain ⟨j, L, rfl, hj, hj2, hB1⟩ := hrel
    have HB1 := hid hB1
    clear hB1 HB
    by_cases hgo : j < n ∧ j < 15
    · have e1 : decide ((j : Int) < n) = true := decide_eq_true (by omega)
      have e2 : decide ((j : Int) < 15) = true := decide_eq_true (by omega)
      have e3 : (j : Int) < n := by omega
      obtain ⟨b0, off, o, rfl, hb0, hok, hcl⟩ := HO.out.each j hgo.1
      have c0 := (HB1.out.bel.cell hb0 (p := ⟨b0, off + j * 8 + 0, none⟩)).trans (hcl 0 _ rfl)
      have c1 := (HB1.out.bel.cell hb0 (p := ⟨b0, off + j * 8 + 1, none⟩)).trans (hcl 1 _ rfl)
      have c2 := (HB1.out.bel.cell hb0 (p := ⟨b0, off + j * 8 + 2, none⟩)).trans (hcl 2 _ rfl)
      have c3 := (HB1.out.bel.cell hb0 (p := ⟨b0, off + j * 8 + 3, none⟩)).trans (hcl 3 _ rfl)
      have c4 := (HB1.out.bel.cell hb0 (p := ⟨b0, off + j * 8 + 4, none⟩)).trans (hcl 4 _ rfl)
      have c5 := (HB1.out.bel.cell hb0 (p := ⟨b0, off + j * 8 + 5, none⟩)).trans (hcl 5 _ rfl)
      have c6 := (HB1.out.bel.cell hb0 (p := ⟨b0, off + j * 8 + 6, none⟩)).trans (hcl 6 _ rfl)
      have c7 := (HB1.out.bel.cell hb0 (p := ⟨b0, off + j * 8 + 7, none⟩)).trans (hcl 7 _ rfl)
      rw [Nat.add_zero] at c0
      have HOK := hid hok
      have HB2 := hid (HB1.out.on (below_new wr (.cells #[.int .i64 o.k, .int .i64 o.x, .int .i64 o.y, .int .i64 o.s, .int .i64 o.t, .int .u32 o.v, .slice o.a o.m o.c, .slice o.a' o.n o.c'] 39)))
      have HC2 := hid (oc_new wr o)
      have hQ : wr.heap.size ≠ b ∧ wr.heap.size ≠ d := by have h1 := HB1.out.cv.lt; have h2 := HB1.out.dv.lt; omega
      have hlb : b < wr.heap.size := HB1.out.cv.lt.2
      clear hcl hok HB1
      by_cases h1 : 400 < o.m
      · have f1 : decide ((400 : Int) < o.m) = true := decide_eq_true (by omega)
        go_wp2
        go_roundw
        case rel => exact ⟨j + 1, L, by go_num, by omega, by omega, HB2.out⟩
        case measure => simp [numOf]; omega
      have f1 : decide ((400 : Int) < o.m) = false := decide_eq_false (by omega)
      by_cases h2 : 6 < o.n
      · have f2 : decide ((6 : Int) < o.n) = true := decide_eq_true (by omega)
        go_wp2
        go_roundw
        case rel => exact ⟨j + 1, L, by go_num, by omega, by omega, HB2.out⟩
        case measure => simp [numOf]; omega
      have f2 : decide ((6 : Int) < o.n) = false := decide_eq_false (by omega)
      have hln : o.l.length = o.n := HOK.out.clip.len
      have CP : Hid (∀ u, Calls Tryd.prog 12 #[.int .i64 o.k, .int .i64 3] u fun e w' => e = .returned (.int .i64 (plc o.k 3 : Nat)) ∧ w' = u) := fun u => place_any o.k 3 HOK.out.k (by omega) (by omega) u
      generalize plc o.k 3 = k at CP
      go_wp2_with fail
      obtain ⟨U, HU⟩ : ∃ U, Hid (U = wr.alloc (.cells #[.int .i64 o.k, .int .i64 o.x, .int .i64 o.y, .int .i64 o.s, .int .i64 o.t, .int .u32 o.v, .slice o.a o.m o.c, .slice o.a' o.n o.c'] 39)) := ⟨_, rfl⟩
      rw [← HU.out] at HB2 HC2
      rw [← HU.out]
      clear HU c0 c1 c2 c3 c4 c5 c6 c7
      obtain ⟨Q, hQe⟩ : ∃ Q, wr.heap.size = Q := ⟨_, rfl⟩
      rw [hQe] at HC2 hQ
      rw [hQe]
      clear hQe
      obtain ⟨t0, t1, t2, t3, t4, t5, t6, t7⟩ := HC2.out.all
      refine (CP.out _).mono ?_
      rintro e u1 ⟨rfl, rfl⟩
      clear CP
      by_cases hk : k = 0
      · subst hk
        go_wp2
        refine wp_region_held_drew (S := fun x => Oc x Q o) (by kernel_rfl) ?hh (fun hHeld => ?_)
        case hh => exact (HC2.out.drew)
        refine wpAnyH_take (i := 0) (v := ?_) rfl (by kernel_rfl) (by kernel_rfl) (by kernel_rfl) (fun _ _ _ h => h) (Or.inl ⟨by kernel_rfl, ?hy0⟩) (by assumption) ?_
        case hy0 => (intro w hSw; (try dsimp only at hSw); obtain ⟨t0, t1, t2, t3, t4, t5, t6, t7⟩ := hSw.all; go_simp; try with_reducible rfl)
        try simp only [Act.put, List.getElem_toArray, List.getElem_cons_zero, List.setIfInBounds_toArray, List.set_cons_zero, List.set_cons_succ]
        refine wpAnyH_take (i := 1) (v := ?_) rfl (by kernel_rfl) (by kernel_rfl) (by kernel_rfl) (fun _ _ _ h => h) (Or.inl ⟨by kernel_rfl, ?hy1⟩) (by assumption) ?_
        case hy1 => (intro w hSw; (try dsimp only at hSw); obtain ⟨t0, t1, t2, t3, t4, t5, t6, t7⟩ := hSw.all; go_simp; try with_reducible rfl)
        try simp only [Act.put, List.getElem_toArray, List.getElem_cons_zero, List.getElem_cons_succ, List.setIfInBounds_toArray, List.set_cons_zero, List.set_cons_succ]
        refine wpAnyH_take (i := 2) (v := ?_) rfl (by kernel_rfl) (by kernel_rfl) (by kernel_rfl) (fun _ _ _ h => h) (Or.inl ⟨by kernel_rfl, ?hy2⟩) (by assumption) ?_
        case hy2 => (intro w hSw; (try dsimp only at hSw); obtain ⟨t0, t1, t2, t3, t4, t5, t6, t7⟩ := hSw.all; go_simp; try with_reducible rfl)
        try simp only [Act.put, List.getElem_toArray, List.getElem_cons_zero, List.getElem_cons_succ, List.setIfInBounds_toArray, List.set_cons_zero, List.set_cons_succ]
        refine wpAnyH_take (i := 3) (v := ?_) rfl (by kernel_rfl) (by kernel_rfl) (by kernel_rfl) (fun _ _ _ h => h) (Or.inl ⟨by kernel_rfl, ?hy3⟩) (by assumption) ?_
        case hy3 => (intro w hSw; (try dsimp only at hSw); obtain ⟨t0, t1, t2, t3, t4, t5, t6, t7⟩ := hSw.all; go_simp; try with_reducible rfl)
        try simp only [Act.put, List.getElem_toArray, List.getElem_cons_zero, List.getElem_cons_succ, List.setIfInBounds_toArray, List.set_cons_zero, List.set_cons_succ]
        refine wpAnyH_take (i := 4) (v := ?_) rfl (by kernel_rfl) (by kernel_rfl) (by kernel_rfl) (fun _ _ _ h => h) (Or.inl ⟨by kernel_rfl, ?hy4⟩) (by assumption) ?_
        case hy4 => (intro w hSw; (try dsimp only at hSw); obtain ⟨t0, t1, t2, t3, t4, t5, t6, t7⟩ := hSw.all; go_simp; try with_reducible rfl)
        try simp only [Act.put, List.getElem_toArray, List.getElem_cons_zero, List.getElem_cons_succ, List.setIfInBounds_toArray, List.set_cons_zero, List.set_cons_succ]
        refine wpAnyH_ready (rs := [5]) (by kernel_rfl) (by simp) ?_
        refine AllReadyH.cons rfl (fun K hK => ?_) AllReadyH.nil
        go_simp
        go_wp2_with fail
        refine (rects_any _ _ _ o.l (HOK.out.clip.on (HB2.out.on (Below.refl _ _).drew).bel) (by omega)).mono ?_
        rintro e u5 ⟨a5, c5, rfl, hR5, hb5⟩
        rw [hln] at hR5
        have hH5 := hHeld.on hb5
        have HB5 := hid ((HB2.out.on (Below.refl _ _).drew).on hb5)
        refine hK.out _ _ hH5 (fun _ => ?_)
        rw [hln]
        clear hK K hHeld hb5
        have hHeld := hH5
        refine wpAnyH_ready (rs := [6]) (by kernel_rfl) (by simp) ?_
        refine AllReadyH.cons rfl (fun K hK => ?_) AllReadyH.nil
        go_simp
        go_wp2_with fail
        refine (cfill_any HB5.out.cv o.v HOK.out.v a5 o.n c5 o.l hR5 (by omega)).mono ?_
        rintro e u6 ⟨rfl, hC6, hk6⟩
        have hH6 := hHeld.kept hk6 (by simpa using hQ.1)
        have HB6 := hid (HB5.out.one hk6 hC6)
        refine hK.out _ _ hH6 (fun _ => ?_)
        clear hK K hHeld hR5 hC6 hk6 hH5
        have hHeld := hH6
        refine wpAnyH_done (by kernel_rfl) ?_ _
        clear t0 t1 t2 t3 t4 t5 t6 t7
        obtain ⟨t0, t1, t2, t3, t4, t5, t6, t7⟩ := hHeld.all
        clear hHeld
        go_wp2_with fail
        refine (rfill_any HB6.out.dv o.v HOK.out.v _ _ _ o.l (HOK.out.clip.on HB6.out.bel)).mono ?_
        rintro e u7 ⟨rfl, hD7, hk7⟩
        have HB7 := hid (HB6.out.two hk7 hD7)
        clear hD7 hk7 HB6 HB5 t0 t1 t2 t3 t4 t5 t6 t7
        go_wp2
        go_roundw
        case rel => exact ⟨j + 1, _, by go_num, by omega, by omega, HB7.out⟩
        case measure => simp [numOf]; omega
      · have f3 : ((k : Int) == 0) = false := by
          rw [beq_eq_false_iff_ne]
          omega
        go_wp2
        refine wp_region_held_drew (S := fun x => Oc x Q o) (by kernel_rfl) ?hh (fun hHeld => ?_)
        case hh => exact (HC2.out.drew)
        refine wpAnyH_take (i := 0) (v := ?_) rfl (by kernel_rfl) (by kernel_rfl) (by kernel_rfl) (fun _ _ _ h => h) (Or.inl ⟨by kernel_rfl, ?hy0⟩) (by assumption) ?_
        case hy0 => (intro w hSw; (try dsimp only at hSw); obtain ⟨t0, t1, t2, t3, t4, t5, t6, t7⟩ := hSw.all; go_simp; try with_reducible rfl)
        try simp only [Act.put, List.getElem_toArray, List.getElem_cons_zero, List.setIfInBounds_toArray, List.set_cons_zero, List.set_cons_succ]
        refine wpAnyH_take (i := 1) (v := ?_) rfl (by kernel_rfl) (by kernel_rfl) (by kernel_rfl) (fun _ _ _ h => h) (Or.inl ⟨by kernel_rfl, ?hy1⟩) (by assumption) ?_
        case hy1 => (intro w hSw; (try dsimp only at hSw); obtain ⟨t0, t1, t2, t3, t4, t5, t6, t7⟩ := hSw.all; go_simp; try with_reducible rfl)
        try simp only [Act.put, List.getElem_toArray, List.getElem_cons_zero, List.getElem_cons_succ, List.setIfInBounds_toArray, List.set_cons_zero, List.set_cons_succ]
        refine wpAnyH_take (i := 2) (v := ?_) rfl (by kernel_rfl) (by kernel_rfl) (by kernel_rfl) (fun _ _ _ h => h) (Or.inl ⟨by kernel_rfl, ?hy2⟩) (by assumption) ?_
        case hy2 => (intro w hSw; (try dsimp only at hSw); obtain ⟨t0, t1, t2, t3, t4, t5, t6, t7⟩ := hSw.all; go_simp; try with_reducible rfl)
        try simp only [Act.put, List.getElem_toArray, List.getElem_cons_zero, List.getElem_cons_succ, List.setIfInBounds_toArray, List.set_cons_zero, List.set_cons_succ]
        refine wpAnyH_take (i := 3) (v := ?_) rfl (by kernel_rfl) (by kernel_rfl) (by kernel_rfl) (fun _ _ _ h => h) (Or.inl ⟨by kernel_rfl, ?hy3⟩) (by assumption) ?_
        case hy3 => (intro w hSw; (try dsimp only at hSw); obtain ⟨t0, t1, t2, t3, t4, t5, t6, t7⟩ := hSw.all; go_simp; try with_reducible rfl)
        try simp only [Act.put, List.getElem_toArray, List.getElem_cons_zero, List.getElem_cons_succ, List.setIfInBounds_toArray, List.set_cons_zero, List.set_cons_succ]
        refine wpAnyH_take (i := 4) (v := ?_) rfl (by kernel_rfl) (by kernel_rfl) (by kernel_rfl) (fun _ _ _ h => h) (Or.inl ⟨by kernel_rfl, ?hy4⟩) (by assumption) ?_
        case hy4 => (intro w hSw; (try dsimp only at hSw); obtain ⟨t0, t1, t2, t3, t4, t5, t6, t7⟩ := hSw.all; go_simp; try with_reducible rfl)
        try simp only [Act.put, List.getElem_toArray, List.getElem_cons_zero, List.getElem_cons_succ, List.setIfInBounds_toArray, List.set_cons_zero, List.set_cons_succ]
        refine wpAnyH_take (i := 5) (v := ?_) rfl (by kernel_rfl) (by kernel_rfl) (by kernel_rfl) (fun _ _ _ h => h) (Or.inl ⟨by kernel_rfl, ?hy5⟩) (by assumption) ?_
        case hy5 => (intro w hSw; (try dsimp only at hSw); obtain ⟨t0, t1, t2, t3, t4, t5, t6, t7⟩ := hSw.all; go_simp; try with_reducible rfl)
        try simp only [Act.put, List.getElem_toArray, List.getElem_cons_zero, List.getElem_cons_succ, List.setIfInBounds_toArray, List.set_cons_zero, List.set_cons_succ]
        refine wpAnyH_take (i := 6) (v := ?_) rfl (by kernel_rfl) (by kernel_rfl) (by kernel_rfl) (fun _ _ _ h => h) (Or.inl ⟨by kernel_rfl, ?hy6⟩) (by assumption) ?_
        case hy6 => (intro w hSw; (try dsimp only at hSw); obtain ⟨t0, t1, t2, t3, t4, t5, t6, t7⟩ := hSw.all; go_simp; try with_reducible rfl)
        try simp only [Act.put, List.getElem_toArray, List.getElem_cons_zero, List.getElem_cons_succ, List.setIfInBounds_toArray, List.set_cons_zero, List.set_cons_succ]
        refine wpAnyH_take (i := 7) (v := ?_) rfl (by kernel_rfl) (by kernel_rfl) (by kernel_rfl) (fun _ _ _ h => h) (Or.inl ⟨by kernel_rfl, ?hy7⟩) (by assumption) ?_
        case hy7 => (intro w hSw; (try dsimp only at hSw); obtain ⟨t0, t1, t2, t3, t4, t5, t6, t7⟩ := hSw.all; go_simp; try with_reducible rfl)
        try simp only [Act.put, List.getElem_toArray, List.getElem_cons_zero, List.getElem_cons_succ, List.setIfInBounds_toArray, List.set_cons_zero, List.set_cons_succ]
        refine wpAnyH_take (i := 8) (v := ?_) rfl (by kernel_rfl) (by kernel_rfl) (by kernel_rfl) (fun _ _ _ h => h) (Or.inl ⟨by kernel_rfl, ?hy8⟩) (by assumption) ?_
        case hy8 => (intro w hSw; (try dsimp only at hSw); obtain ⟨t0, t1, t2, t3, t4, t5, t6, t7⟩ := hSw.all; go_simp; try with_reducible rfl)
        try simp only [Act.put, List.getElem_toArray, List.getElem_cons_zero, List.getElem_cons_succ, List.setIfInBounds_toArray, List.set_cons_zero, List.set_cons_succ]
        refine wpAnyH_take (i := 9) (v := ?_) rfl (by kernel_rfl) (by kernel_rfl) (by kernel_rfl) (fun _ _ _ h => h) (Or.inl ⟨by kernel_rfl, ?hy9⟩) (by assumption) ?_
        case hy9 => (intro w hSw; (try dsimp only at hSw); obtain ⟨t0, t1, t2, t3, t4, t5, t6, t7⟩ := hSw.all; go_simp; try with_reducible rfl)
        try simp only [Act.put, List.getElem_toArray, List.getElem_cons_zero, List.getElem_cons_succ, List.setIfInBounds_toArray, List.set_cons_zero, List.set_cons_succ]
        refine wpAnyH_take (i := 10) (v := ?_) rfl (by kernel_rfl) (by kernel_rfl) (by kernel_rfl) (fun _ _ _ h => h) (Or.inl ⟨by kernel_rfl, ?hy10⟩) (by assumption) ?_
        case hy10 => (intro w hSw; (try dsimp only at hSw); obtain ⟨t0, t1, t2, t3, t4, t5, t6, t7⟩ := hSw.all; go_simp; try with_reducible rfl)
        try simp only [Act.put, List.getElem_toArray, List.getElem_cons_zero, List.getElem_cons_succ, List.setIfInBounds_toArray, List.set_cons_zero, List.set_cons_succ]
        refine wpAnyH_take (i := 12) (v := ?_) rfl (by kernel_rfl) (by kernel_rfl) (by kernel_rfl) (fun _ _ _ h => h) (Or.inl ⟨by kernel_rfl, ?hy12⟩) (by assumption) ?_
        case hy12 => (intro w hSw; (try dsimp only at hSw); obtain ⟨t0, t1, t2, t3, t4, t5, t6, t7⟩ := hSw.all; go_simp; try with_reducible rfl)
        try simp only [Act.put, List.getElem_toArray, List.getElem_cons_zero, List.getElem_cons_succ, List.setIfInBounds_toArray, List.set_cons_zero, List.set_cons_succ]
        refine wpAnyH_take (i := 13) (v := ?_) rfl (by kernel_rfl) (by kernel_rfl) (by kernel_rfl) (fun _ _ _ h => h) (Or.inl ⟨by kernel_rfl, ?hy13⟩) (by assumption) ?_
        case hy13 => (intro w hSw; (try dsimp only at hSw); obtain ⟨t0, t1, t2, t3, t4, t5, t6, t7⟩ := hSw.all; go_simp; try with_reducible rfl)
        try simp only [Act.put, List.getElem_toArray, List.getElem_cons_zero, List.getElem_cons_succ, List.setIfInBounds_toArray, List.set_cons_zero, List.set_cons_succ]
        refine wpAnyH_ready (rs := [11]) (by kernel_rfl) (by simp) ?_
        refine AllReadyH.cons rfl (fun K hK => ?_) AllReadyH.nil
        go_simp
        go_wp2_with fail
        refine (words_any _ _ _ o.pix (HOK.out.pix.on (HB2.out.on (Below.refl _ _).drew).bel) (by omega)).mono ?_
        rintro e u4 ⟨a4, c4, rfl, hR4, hlo4, hb4⟩
        have hH4 := hHeld.on hb4
        have hB4' := (HB2.out.on (Below.refl _ _).drew).on hb4
        have hab4 : ∀ x, a4 = some x → x.block ≠ b := fun x hx => by {have h1 := hlo4 x hx; have h2 := (HB2.out.on (Below.refl _ _).drew).cv.lt.2; omega}
        have HB4 := hid hB4'
        refine hK.out _ _ hH4 (fun _ => ?_)
        clear hK K hHeld hb4 hB4'
        have hHeld := hH4
        refine wpAnyH_ready (rs := [14]) (by kernel_rfl) (by simp) ?_
        refine AllReadyH.cons rfl (fun K hK => ?_) AllReadyH.nil
        go_simp
        go_wp2_with fail
        refine (rects_any _ _ _ o.l (HOK.out.clip.on HB4.out.bel) (by omega)).mono ?_
        rintro e u5 ⟨a5, c5, rfl, hR5, hb5⟩
        rw [hln] at hR5
        have hH5 := hHeld.on hb5
        have HB5 := hid (HB4.out.on hb5)
        have hR4' := hR4.on hb5
        refine hK.out _ _ hH5 (fun _ => ?_)
        rw [hln]
        clear hK K hHeld hb5 hR4
        have hHeld := hH5
        refine wpAnyH_ready (rs := [15]) (by kernel_rfl) (by simp) ?_
        refine AllReadyH.cons rfl (fun K hK => ?_) AllReadyH.nil
        go_simp
        go_wp2_with fail
        refine (cdraw_any HB5.out.cv o.x o.y o.s o.t HOK.out.x HOK.out.y HOK.out.s HOK.out.t a4 o.m c4 o.pix hR4' (by omega) (fun _ => hab4) a5 o.n c5 o.l hR5 (by omega)).mono ?_
        rintro e u6 ⟨rfl, hC6, hk6⟩
        have hH6 := hHeld.kept hk6 (by simpa using hQ.1)
        have HB6 := hid (HB5.out.one hk6 hC6)
        refine hK.out _ _ hH6 (fun _ => ?_)
        clear hK K hHeld hR5 hR4' hC6 hk6 hH5 hH4
        have hHeld := hH6
        refine wpAnyH_done (by kernel_rfl) ?_ _
        clear t0 t1 t2 t3 t4 t5 t6 t7
        obtain ⟨t0, t1, t2, t3, t4, t5, t6, t7⟩ := hHeld.all
        clear hHeld
        go_wp2_with fail
        refine (rdraw_any HB6.out.dv o.x o.y o.s o.t HOK.out.x HOK.out.y HOK.out.s HOK.out.t _ _ _ o.pix (HOK.out.pix.on HB6.out.bel) (by omega) (rdi_low HOK.out.pix HB6.out.lod) _ _ _ o.l (HOK.out.clip.on HB6.out.bel)).mono ?_
        rintro e u7 ⟨rfl, hD7, hk7⟩
        have HB7 := hid (HB6.out.two hk7 hD7)
        clear hD7 hk7 HB6 HB5 HB4 t0 t1 t2 t3 t4 t5 t6 t7
        go_wp2
        go_roundw
        case rel => exact ⟨j + 1, _, by go_num, by omega, by omega, HB7.out⟩
        case measure => simp [numOf]; omega
    · by_cases hg1 : j < n
      · have e1 : decide ((j : Int) < n) = true := decide_eq_true (by omega)
        have e2 : decide ((j : Int) < 15) = false := decide_eq_false (by omega)
        obtain ⟨N, hN⟩ : ∃ N, W * H = N := ⟨_, rfl⟩
        have HN := hid hN
        have hN1 : N ≤ 2304 := by rw [← hN]; exact HB1.out.cv.small
        have l1 := HB1.out.dv.lt.1
        have HD1 := hid HB1.out.dv
        clear hN
        go_wp2
        refine wp_region_held_drew (S := fun x => Cv 57 x q d W H L) (by kernel_rfl) ?hh (fun hHeld => ?_)
        case hh => exact (HD1.out.on (Below.refl _ _).drew)
        refine wpAnyH_take (i := 0) (v := ?_) rfl (by kernel_rfl) (by kernel_rfl) (by kernel_rfl) (fun _ _ _ h => h) (Or.inl ⟨by kernel_rfl, ?hy0⟩) (by assumption) ?_
        case hy0 => (intro w hSw; (try dsimp only at hSw); have t2 := hSw.c2; rw [HN.out] at t2; go_simp; try with_reducible rfl)
        try simp only [Act.put, List.getElem_toArray, List.getElem_cons_zero, List.setIfInBounds_toArray, List.set_cons_zero, List.set_cons_succ]
        refine wpAnyH_take (i := 2) (v := ?_) rfl (by kernel_rfl) (by kernel_rfl) (by kernel_rfl) (fun _ _ _ h => h) (Or.inl ⟨by kernel_rfl, ?hy2⟩) (by assumption) ?_
        case hy2 => (intro w hSw; (try dsimp only at hSw); have t2 := hSw.c2; rw [HN.out] at t2; go_simp; try with_reducible rfl)
        try simp only [Act.put, List.getElem_toArray, List.getElem_cons_zero, List.getElem_cons_succ, List.setIfInBounds_toArray, List.set_cons_zero, List.set_cons_succ]
        refine wpAnyH_take (i := 3) (v := ?_) rfl (by kernel_rfl) (by kernel_rfl) (by kernel_rfl) (fun _ _ _ h => h) (Or.inl ⟨by kernel_rfl, ?hy3⟩) (by assumption) ?_
        case hy3 => (intro w hSw; (try dsimp only at hSw); have t2 := hSw.c2; rw [HN.out] at t2; go_simp; try with_reducible rfl)
        try simp only [Act.put, List.getElem_toArray, List.getElem_cons_zero, List.getElem_cons_succ, List.setIfInBounds_toArray, List.set_cons_zero, List.set_cons_succ]
        refine wpAnyH_take (i := 4) (v := ?_) rfl (by kernel_rfl) (by kernel_rfl) (by kernel_rfl) (fun _ _ _ h => h) (Or.inl ⟨by kernel_rfl, ?hy4⟩) (by assumption) ?_
        case hy4 => (intro w hSw; (try dsimp only at hSw); have t2 := hSw.c2; rw [HN.out] at t2; go_simp; try with_reducible rfl)
        try simp only [Act.put, List.getElem_toArray, List.getElem_cons_zero, List.getElem_cons_succ, List.setIfInBounds_toArray, List.set_cons_zero, List.set_cons_succ]
        refine wpAnyH_take (i := 5) (v := ?_) rfl (by kernel_rfl) (by kernel_rfl) (by kernel_rfl) (fun _ _ _ h => h) (Or.inl ⟨by kernel_rfl, ?hy5⟩) (by assumption) ?_
        case hy5 => (intro w hSw; (try dsimp only at hSw); have t2 := hSw.c2; rw [HN.out] at t2; go_simp; try with_reducible rfl)
        try simp only [Act.put, List.getElem_toArray, List.getElem_cons_zero, List.getElem_cons_succ, List.setIfInBounds_toArray, List.set_cons_zero, List.set_cons_succ]
        refine wpAnyH_ready (rs := [1]) (by kernel_rfl) (by simp) ?_
        refine AllReadyH.cons rfl (fun K hK => ?_) AllReadyH.nil
        go_simp
        go_wp2_with fail
        refine (pixels_any (HB1.out.cv.on (Below.refl _ _).drew)).mono ?_
        rintro e u9 ⟨g, rfl, hg, hOw, hb9⟩
        have hH9 := hHeld.on hb9
        have HB9 := hid ((HB1.out.on (Below.refl _ _).drew).on hb9)
        refine hK.out _ _ hH9 (fun _ => ?_)
        clear hK K hHeld hb9
        have hHeld := hH9
        rw [HN.out]
        refine wpAnyH_ready (rs := [6]) (by kernel_rfl) (by simp) ?_
        refine AllReadyH.cons rfl (fun K hK => ?_) AllReadyH.nil
        go_simp
        go_wp2_with fail
        obtain ⟨a9, c9, e9, hR9, _⟩ := rdw_of_owns hOw HB9.out.cv.col
        have hR8 := hHeld.rdi
        rw [HN.out] at hR8 hR9 e9
        cases e9
        refine (samew_any _ _ _ _ _ L _ hR9 hR8 (by omega)).mono ?_
        rintro e u10 ⟨rfl, hb10⟩
        refine hK.out _ _ (hHeld.on hb10) (fun _ => ?_)
        have HB10 := hid (HB9.out.on hb10)
        clear hK K hHeld hb10 hR8 hR9
        refine wpAnyH_take (i := 7) (v := ?_) rfl (by kernel_rfl) (by kernel_rfl) (by kernel_rfl) (fun _ _ _ h => h) (Or.inl ⟨by kernel_rfl, ?hy7⟩) (by assumption) ?_
        case hy7 => (intro w hSw; (try dsimp only at hSw); have t2 := hSw.c2; rw [HN.out] at t2; go_simp; try with_reducible rfl)
        try simp only [Act.put, List.getElem_toArray, List.getElem_cons_zero, List.getElem_cons_succ, List.setIfInBounds_toArray, List.set_cons_zero, List.set_cons_succ]
        refine wpAnyH_done (by kernel_rfl) ?_ _
        go_wp2
        go_ret
        exact ⟨rfl, L, HB10.out⟩
      · have e1 : decide ((j : Int) < n) = false := decide_eq_false (by omega)
        obtain ⟨N, hN⟩ : ∃ N, W * H = N := ⟨_, rfl⟩
        have HN := hid hN
        have hN1 : N ≤ 2304 := by rw [← hN]; exact HB1.out.cv.small
        have l1 := HB1.out.dv.lt.1
        have HD1 := hid HB1.out.dv
        clear hN
        go_wp2
        refine wp_region_held_drew (S := fun x => Cv 57 x q d W H L) (by kernel_rfl) ?hh (fun hHeld => ?_)
        case hh => exact (HD1.out.on (Below.refl _ _).drew)
        refine wpAnyH_take (i := 0) (v := ?_) rfl (by kernel_rfl) (by kernel_rfl) (by kernel_rfl) (fun _ _ _ h => h) (Or.inl ⟨by kernel_rfl, ?hy0⟩) (by assumption) ?_
        case hy0 => (intro w hSw; (try dsimp only at hSw); have t2 := hSw.c2; rw [HN.out] at t2; go_simp; try with_reducible rfl)
        try simp only [Act.put, List.getElem_toArray, List.getElem_cons_zero, List.setIfInBounds_toArray, List.set_cons_zero, List.set_cons_succ]
        refine wpAnyH_take (i := 2) (v := ?_) rfl (by kernel_rfl) (by kernel_rfl) (by kernel_rfl) (fun _ _ _ h => h) (Or.inl ⟨by kernel_rfl, ?hy2⟩) (by assumption) ?_
        case hy2 => (intro w hSw; (try dsimp only at hSw); have t2 := hSw.c2; rw [HN.out] at t2; go_simp; try with_reducible rfl)
        try simp only [Act.put, List.getElem_toArray, List.getElem_cons_zero, List.getElem_cons_succ, List.setIfInBounds_toArray, List.set_cons_zero, List.set_cons_succ]
        refine wpAnyH_take (i := 3) (v := ?_) rfl (by kernel_rfl) (by kernel_rfl) (by kernel_rfl) (fun _ _ _ h => h) (Or.inl ⟨by kernel_rfl, ?hy3⟩) (by assumption) ?_
        case hy3 => (intro w hSw; (try dsimp only at hSw); have t2 := hSw.c2; rw [HN.out] at t2; go_simp; try with_reducible rfl)
        try simp only [Act.put, List.getElem_toArray, List.getElem_cons_zero, List.getElem_cons_succ, List.setIfInBounds_toArray, List.set_cons_zero, List.set_cons_succ]
        refine wpAnyH_take (i := 4) (v := ?_) rfl (by kernel_rfl) (by kernel_rfl) (by kernel_rfl) (fun _ _ _ h => h) (Or.inl ⟨by kernel_rfl, ?hy4⟩) (by assumption) ?_
        case hy4 => (intro w hSw; (try dsimp only at hSw); have t2 := hSw.c2; rw [HN.out] at t2; go_simp; try with_reducible rfl)
        try simp only [Act.put, List.getElem_toArray, List.getElem_cons_zero, List.getElem_cons_succ, List.setIfInBounds_toArray, List.set_cons_zero, List.set_cons_succ]
        refine wpAnyH_take (i := 5) (v := ?_) rfl (by kernel_rfl) (by kernel_rfl) (by kernel_rfl) (fun _ _ _ h => h) (Or.inl ⟨by kernel_rfl, ?hy5⟩) (by assumption) ?_
        case hy5 => (intro w hSw; (try dsimp only at hSw); have t2 := hSw.c2; rw [HN.out] at t2; go_simp; try with_reducible rfl)
        try simp only [Act.put, List.getElem_toArray, List.getElem_cons_zero, List.getElem_cons_succ, List.setIfInBounds_toArray, List.set_cons_zero, List.set_cons_succ]
        refine wpAnyH_ready (rs := [1]) (by kernel_rfl) (by simp) ?_
        refine AllReadyH.cons rfl (fun K hK => ?_) AllReadyH.nil
        go_simp
        go_wp2_with fail
        refine (pixels_any (HB1.out.cv.on (Below.refl _ _).drew)).mono ?_
        rintro e u9 ⟨g, rfl, hg, hOw, hb9⟩
        have hH9 := hHeld.on hb9
        have HB9 := hid ((HB1.out.on (Below.refl _ _).drew).on hb9)
        refine hK.out _ _ hH9 (fun _ => ?_)
        clear hK K hHeld hb9
        have hHeld := hH9
        rw [HN.out]
        refine wpAnyH_ready (rs := [6]) (by kernel_rfl) (by simp) ?_
        refine AllReadyH.cons rfl (fun K hK => ?_) AllReadyH.nil
        go_simp
        go_wp2_with fail
        obtain ⟨a9, c9, e9, hR9, _⟩ := rdw_of_owns hOw HB9.out.cv.col
        have hR8 := hHeld.rdi
        rw [HN.out] at hR8 hR9 e9
        cases e9
        refine (samew_any _ _ _ _ _ L _ hR9 hR8 (by omega)).mono ?_
        rintro e u10 ⟨rfl, hb10⟩
        refine hK.out _ _ (hHeld.on hb10) (fun _ => ?_)
        have HB10 := hid (HB9.out.on hb10)
        clear hK K hHeld hb10 hR8 hR9
        refine wpAnyH_take (i := 7) (v := ?_) rfl (by kernel_rfl) (by kernel_rfl) (by kernel_rfl) (fun _ _ _ h => h) (Or.inl ⟨by kernel_rfl, ?hy7⟩) (by assumption) ?_
        case hy7 => (intro w hSw; (try dsimp only at hSw); have t2 := hSw.c2; rw [HN.out] at t2; go_simp; try with_reducible rfl)
        try simp only [Act.put, List.getElem_toArray, List.getElem_cons_zero, List.getElem_cons_succ, List.setIfInBounds_toArray, List.set_cons_zero, List.set_cons_succ]
        refine wpAnyH_done (by kernel_rfl) ?_ _
        go_wp2
        go_ret
        exact ⟨rfl, L, HB10.out⟩
end Go.Proofs.YtldnggokkkhihaaDoor
