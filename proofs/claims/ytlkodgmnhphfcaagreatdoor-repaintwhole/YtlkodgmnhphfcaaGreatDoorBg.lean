/- The document's canvas: New, In, Fill, Draw; law 0's Rects, Words, SameWords. -/
import Derived.Test.YtlkodgmnhphfcaaGreatDoorBf
import Derived.Test.YtlkodgmnhphfcaaGreatDoorBa
import Derived.Test.YtlkodgmnhphfcaaGreatDoorBb
import Derived.Test.YtlkodgmnhphfcaaGreatDoorBc
import Derived.Laws.OwnMore
import Derived.Deep.DeepCutAuto
import Derived.Deep.CutRange
import Derived.Laws.Rows
import Derived.Lib.Builder
import Derived.Shelf.Abstract
namespace Go.Proofs.YtlkodgmnhphfcaaGreatDoor
open Go Go.RowKit

variable {w w' x y : World} {p b W H : Nat} {L : List Int} {g : Int → Int → Int → Int} {D : Int → Int → Bool}

/-- Those of D that are ahead of (x, y), row by row. -/
def dR (D : Int → Int → Bool) (y x : Int) (u v : Int) : Bool := D u v && (decide (v < y) || (decide (v = y) && decide (u < x)))

theorem dR_start (hL : L.length = W * H) : trn W g (dR D 0 0) L = L := trn_none hL fun u v _ _ => by
  rw [dR, Bool.eq_false_iff]
  simp only [ne_eq, Bool.and_eq_true, Bool.or_eq_true, decide_eq_true_eq]
  omega
theorem dR_row (hL : L.length = W * H) (y : Nat) : trn W g (dR D y W) L = trn W g (dR D (y + 1 : Nat) 0) L := trn_congr hL fun u v hu _ => by
  rw [dR, dR]
  congr 1
  rw [Bool.eq_iff_iff]
  simp only [Bool.and_eq_true, Bool.or_eq_true, decide_eq_true_eq]
  omega
theorem dR_end (hL : L.length = W * H) : trn W g (dR D H 0) L = trn W g D L := trn_congr hL fun u v _ hv => by
  rw [dR, decide_eq_true (show ((v : Nat) : Int) < (H : Int) by omega), Bool.true_or, Bool.and_true]
theorem dR_step {x y : Nat} (hd : D x y = true) (u v : Int) : add1 (dR D y x) x y u v = dR D y (x + 1 : Nat) u v := by
  rw [Bool.eq_iff_iff]
  simp only [add1, dR, Bool.and_eq_true, Bool.or_eq_true, decide_eq_true_eq]
  constructor
  · rintro (⟨h1, h2⟩ | ⟨rfl, rfl⟩)
    · exact ⟨h1, by omega⟩
    · exact ⟨hd, by omega⟩
  · rintro ⟨h1, h2⟩
    by_cases h : u = x ∧ v = y
    · exact .inr h
    · exact .inl ⟨h1, by omega⟩
theorem dR_none {x y : Nat} (hd : D x y = false) : dR D y x = dR D y (x + 1 : Nat) := by
  funext u v
  rw [Bool.eq_iff_iff]
  simp only [dR, Bool.and_eq_true, Bool.or_eq_true, decide_eq_true_eq]
  constructor
  · rintro ⟨h1, h2⟩
    exact ⟨h1, by omega⟩
  · rintro ⟨h1, h2⟩
    refine ⟨h1, ?_⟩
    by_cases h : u = x ∧ v = y
    · rw [h.1, h.2, hd] at h1
      cases h1
    · omega
theorem dR_same {x y : Nat} {z : Int} (hL : L.length = W * H) (hx : x < W) (hz : L[y * W + x]? = some z) (hg : g x y z = z) : trn W g (dR D y x) L = trn W g (dR D y (x + 1 : Nat)) L := trn_eq hL fun u v _ _ t ht => by
  by_cases h : u = x ∧ v = y
  · obtain ⟨rfl, rfl⟩ := h
    rw [hz] at ht
    cases ht
    rw [hg, ite_self, ite_self]
  · have : dR D y x u v = dR D y (x + 1 : Nat) u v := by
      rw [dR, dR]
      congr 1
      rw [Bool.eq_iff_iff]
      simp only [Bool.and_eq_true, Bool.or_eq_true, decide_eq_true_eq]
      omega
    rw [this]
/-- A point that is not yet turned. -/
theorem dR_val {x y : Nat} (hx : x < W) : (trn W g (dR D y x) L)[y * W + x]? = L[y * W + x]? := by
  have : dR D y x x y = false := by
    rw [dR, Bool.eq_false_iff]
    simp only [ne_eq, Bool.and_eq_true, Bool.or_eq_true, decide_eq_true_eq]
    omega
  rw [trn_get hx, this]
  cases L[y * W + x]? <;> rfl

/-- A point turned, in the canvas. -/
theorem Cv.put {ty : Nat} {x y : Nat} {z t : Int} (h : Cv ty w p b W H (trn W g (dR D y x) L)) (hx : x < W) (hy : y < H) (hd : D x y = true) (hz : L[y * W + x]? = some z) (ht : t = g x y z) (hc : Col t) : Cv ty (w.setCell ⟨b, y * W + x, none⟩ (.int .u32 t)) p b W H (trn W g (dR D y (x + 1 : Nat)) L) := by
  have hL : L.length = W * H := by
    have := h.len
    rwa [trn_length] at this
  have hs := h.set (y * W + x) hc
  rw [ht, trn_set hL hx hy hz, show add1 (dR D y x) x y = dR D y (x + 1 : Nat) from funext fun u => funext fun v => dR_step hd u v, ← ht] at hs
  exact hs

theorem bnd_okay (q : Rc) : (bnd q).Ok := by
  rcases bnd_cases q with h' | h'
  · rw [bnd_rz h']
    exact rz_ok
  · exact h'.ok

set_option maxRecDepth 100000 in
theorem rnew_any (w : World) (W H : Nat) (hW : 1 ≤ W ∧ W ≤ 48) (hH : 1 ≤ H ∧ H ≤ 48) :
    Calls Tryz.prog 8 #[.int .i64 (W : Nat), .int .i64 (H : Nat)] w (Own 46 w W H (List.replicate (W * H) 0) fun v => v) := by
  obtain ⟨n, hn⟩ : ∃ n, W * H = n := ⟨_, rfl⟩
  have hs : n ≤ 2304 := by rw [← hn]; exact Nat.mul_le_mul hW.2 hH.2
  have m1 : (W : Int) * (H : Int) = (n : Int) := by rw [← hn, Int.natCast_mul]
  have e1 : decide ((W : Int) < 1) = false := decide_eq_false (by omega)
  have e2 : decide ((48 : Int) < (W : Int)) = false := decide_eq_false (by omega)
  have e3 : decide ((H : Int) < 1) = false := decide_eq_false (by omega)
  have e4 : decide ((48 : Int) < (H : Int)) = false := decide_eq_false (by omega)
  obtain ⟨w1, hmk, hb1, ho1⟩ := make32 w n hs
  have hs1 := hb1.size
  have HN := hid hn
  have HB := hid hb1
  have HO := hid ho1
  clear hn hb1 ho1
  go_enter Tryz.func8, Tryz.ntmps8
  go_wp2
  go_ret
  subst HN
  exact ⟨_, _, rfl, HB.out.alloc hs1 _, cv_new 46 HO.out (fun z hz => by rw [List.eq_of_mem_replicate hz, Col]; decide) hW hH, hs1, Nat.le_refl _⟩

set_option maxRecDepth 100000 in
theorem rnew_no (w : World) (m n : Int) (h : (side m && side n) = false) :
    Calls Tryz.prog 8 #[.int .i64 m, .int .i64 n] w fun e w' => e = .returned (.pointer none) ∧ w' = w := by
  go_enter Tryz.func8, Tryz.ntmps8
  by_cases h1 : m < 1
  · have e1 : decide (m < 1) = true := decide_eq_true h1
    clear h
    go_wp2
    go_ret
    exact ⟨rfl, rfl⟩
  have e1 : decide (m < 1) = false := decide_eq_false h1
  by_cases h2 : 48 < m
  · have e2 : decide (48 < m) = true := decide_eq_true h2
    clear h
    go_wp2
    go_ret
    exact ⟨rfl, rfl⟩
  have e2 : decide (48 < m) = false := decide_eq_false h2
  by_cases h3 : n < 1
  · have e3 : decide (n < 1) = true := decide_eq_true h3
    clear h
    go_wp2
    go_ret
    exact ⟨rfl, rfl⟩
  have e3 : decide (n < 1) = false := decide_eq_false h3
  have e4 : decide (48 < n) = true := by
    rw [decide_eq_true_eq]
    simp only [side, Bool.and_eq_false_iff, decide_eq_false_iff_not] at h
    omega
  clear h
  go_wp2
  go_ret
  exact ⟨rfl, rfl⟩

set_option maxRecDepth 100000 in
theorem rin14_any (a : Option Addr) (n c : Nat) (l : List Rc) (w : World) (h : RdC w a n c l) (x y : Int) (hx : I64 x) (hy : I64 y) :
    Calls Tryz.prog 19 #[.slice a n c, .int .i64 x, .int .i64 y] w fun e w' => e = .returned (.bool (inC l x y)) ∧ Below w.heap.size w w' := by
  have hs := h.small
  have HL := hid h.len
  have HR := hid h
  clear h
  go_enter Tryz.func19, Tryz.ntmps19
  go_wp2
  go_loopw [7] (fun t wr => ∃ i : Nat, t = .int .i64 i ∧ i ≤ n ∧ (∀ k r, k < i → l[k]? = some r → has (bnd r) x y = false) ∧ RowKit.Below w.heap.size w wr) (fun t _ => n - (numOf t).toNat)
  case atStart => exact ⟨0, rfl, by omega, fun k r hk => absurd hk (by omega), Below.refl _ _⟩
  case round =>
    obtain ⟨i, rfl, hi, hN, hb⟩ := hrel
    have HN := hid hN
    have HB := hid hb
    clear hN hb
    by_cases hgo : i < n
    · have e1 : decide ((i : Int) < n) = true := decide_eq_true (by omega)
      have e3 : (i : Int) < n := by omega
      obtain ⟨b, off, r, rfl, _, hr, ok, he⟩ := (HR.out.on HB.out).el hgo
      obtain ⟨_, c0, c1, c2, c3⟩ := he
      have HQ := hid hr
      have CB := hid (fun u => rbound_any r ok u)
      have CH := hid (fun u => rhas_any (bnd r) (bnd_okay r) x y hx hy u)
      clear hr
      go_wp2_with fail
      refine (CB.out _).mono ?_
      rintro e w2 ⟨rfl, hb2⟩
      have HB2 := hid (Below.on HB.out hb2)
      clear hb2
      cases hq : has (bnd r) x y
      · rw [hq] at CH
        have HN2 : Hid (∀ k r', k < i + 1 → l[k]? = some r' → has (bnd r') x y = false) := fun k r' hk hr' => by
          rcases Nat.lt_or_ge k i with h | h
          · exact HN.out k r' h hr'
          · obtain rfl : k = i := by omega
            rw [HQ.out] at hr'
            cases hr'
            exact hq
        go_wp2_with fail
        refine (CH.out _).mono ?_
        rintro e w3 ⟨rfl, hb3⟩
        have HB3 := hid (Below.on HB2.out hb3)
        clear hb3
        go_wp2
        go_roundw
        case rel => exact ⟨i + 1, by go_num, by omega, HN2.out, HB3.out⟩
        case measure => simp [numOf]; omega
      · rw [hq] at CH
        have HI : Hid (inC l x y = true) := by
          rw [Hid, inC, List.any_eq_true]
          exact ⟨r, List.mem_of_getElem? HQ.out, hq⟩
        go_wp2_with fail
        refine (CH.out _).mono ?_
        rintro e w3 ⟨rfl, hb3⟩
        have HB3 := hid (Below.on HB2.out hb3)
        clear hb3
        go_wp2
        go_ret
        rw [HI.out]
        exact ⟨rfl, HB3.out⟩
    · have e1 : decide ((i : Int) < n) = false := decide_eq_false (by omega)
      have HI : Hid (inC l x y = false) := by
        rw [Hid, inC, List.any_eq_false]
        intro r hr
        obtain ⟨k, hk⟩ := List.getElem?_of_mem hr
        have hkl := (List.getElem?_eq_some_iff.1 hk).1
        have := HL.out
        rw [HN.out k r (by omega) hk]
        decide
      go_wp2
      go_ret
      rw [HI.out]
      exact ⟨rfl, HB.out⟩

/-- The struct of a canvas, in a world. -/
def Vr (x : World) (p b W n : Nat) (H : Nat) : Prop := x.heap[p]? = some (.cells #[.int .i64 (W : Nat), .int .i64 (H : Nat), .slice (some ⟨b, 0, none⟩) n n] 46 (0, 0))
theorem Vr.c0 {x : World} {n : Nat} (h : Vr x p b W n H) : x.cell? ⟨p, 0, none⟩ = some (.int .i64 (W : Nat)) := by rw [Lib.cell_of_heap h]; rfl
theorem Vr.c2 {x : World} {n : Nat} (h : Vr x p b W n H) : x.cell? ⟨p, 2, none⟩ = some (.slice (some ⟨b, 0, none⟩) n n) := by rw [Lib.cell_of_heap h]; rfl
theorem Vr.set {x : World} {n : Nat} (h : Vr x p b W n H) (ne : p ≠ b) (k : Nat) (v : Value) : Vr (x.setCell ⟨b, k, none⟩ v) p b W n H := by
  unfold Vr at h ⊢
  rw [heap_setCell_other _ _ _ _ ne]
  exact h

set_option maxRecDepth 100000 in
set_option maxHeartbeats 4000000 in
theorem rfill_any (h : Cv 46 w p b W H L) (v : Int) (hv : Col v) (a : Option Addr) (n c : Nat) (l : List Rc) (hr : RdC w a n c l) :
    Calls Tryz.prog 30 #[.pointer (some ⟨p, 0, none⟩), .int .u32 v, .slice a n c] w fun e w' => e = .returned (.tuple #[]) ∧ Cv 46 w' p b W H (fll W v l L) ∧ Kp [b] w w' := by
  have HL := hid h.len
  have HC := hid h
  have HR := hid hr
  have hW := h.hW
  have hH := h.hH
  have ne := h.ne
  obtain ⟨N, hN⟩ : ∃ N, W * H = N := ⟨_, rfl⟩
  have hN1 : N ≤ 2304 := by rw [← hN]; exact Nat.mul_le_mul hW.2 hH.2
  have HNN := hid hN
  have HNO : Hid (∀ (wr : World) M, Cv 46 wr p b W H M → ∀ i z, wr.cell? ⟨b, i, none⟩ ≠ some (.int .i64 z)) := fun wr M hC i z hz => hC.no64 hz
  clear h hr hN
  go_enter Tryz.func30, Tryz.ntmps30
  go_wp2
  go_loopw [6] (fun t wr => ∃ y : Nat, t = .int .i64 y ∧ y ≤ H ∧ Cv 46 wr p b W H (trn W (fun _ _ _ => v) (dR (inC l) y 0) L) ∧ RdC wr a n c l ∧ Kp [b] w wr) (fun t _ => H - (numOf t).toNat)
  case atStart => exact ⟨0, rfl, by omega, by rw [Int.ofNat_zero, dR_start HL.out]; exact HC.out, HR.out, Kp.refl _ _⟩
  case round =>
    obtain ⟨y, rfl, hy, hC1, hR1, hK1⟩ := hrel
    have HC1 := hid hC1
    have HR1 := hid hR1
    have HK1 := hid hK1
    have l0 := hC1.lt.1
    have d1 := hC1.c1
    clear hC1 hR1 hK1 HC HR
    by_cases hgy : y < H
    · have e1 : decide ((y : Int) < H) = true := decide_eq_true (by omega)
      go_wp2
      clear l0 d1
      go_loopw [7] (fun t wr => ∃ x : Nat, t = .int .i64 x ∧ x ≤ W ∧ Cv 46 wr p b W H (trn W (fun _ _ _ => v) (dR (inC l) y x) L) ∧ RdC wr a n c l ∧ Kp [b] w wr) (fun t _ => W - (numOf t).toNat)
      case atStart => exact ⟨0, rfl, by omega, HC1.out, HR1.out, HK1.out⟩
      case round =>
        obtain ⟨x, rfl, hx, hC2, hR2, hK2⟩ := hrel
        have HC2 := hid hC2
        have HR2 := hid hR2
        have HK2 := hid hK2
        have l0 := hC2.lt.1
        have d0 := hC2.c0
        clear hC2 hR2 hK2 HC1 HR1 HK1
        by_cases hgx : x < W
        · have e2 : decide ((x : Int) < W) = true := decide_eq_true (by omega)
          have CI := hid (rin14_any a n c l wr HR2.out x y (by rw [I64]; omega) (by rw [I64]; omega))
          cases hq : inC l x y
          · rw [hq] at CI
            have HE : Hid (trn W (fun _ _ _ => v) (dR (inC l) y x) L = trn W (fun _ _ _ => v) (dR (inC l) y (x + 1 : Nat)) L) := by rw [Hid, dR_none hq]
            rw [HE.out] at HC2
            go_wp2_with fail
            refine CI.out.mono ?_
            rintro e w3 ⟨rfl, hb3⟩
            have HC3 := hid (HC2.out.on hb3)
            have HR3 := hid (HR2.out.on hb3)
            have HK3 := hid (HK2.out.trans (kp_of_below hb3 []) (by simp))
            clear hb3 l0 d0 HC2 HR2 HK2
            go_wp2
            go_roundw
            case rel => exact ⟨x + 1, by go_num, by omega, HC3.out, HR3.out, HK3.out⟩
            case measure => simp [numOf]; omega
          · rw [hq] at CI
            go_wp2_with fail
            refine CI.out.mono ?_
            rintro e w3 ⟨rfl, hb3⟩
            have hC3 := HC2.out.on hb3
            have HR3 := hid (HR2.out.on hb3)
            have HK3 := hid (HK2.out.trans (kp_of_below hb3 []) (by simp))
            obtain ⟨z, hz, _⟩ := hC3.at_ hgx hgy
            have c0 := hC3.cell hz
            have fz := hC3.fz (y * W + x)
            rw [dR_val hgx] at hz
            have HP := hid (hC3.put hgx hgy hq hz rfl hv)
            have HNX := hid (HNO.out _ _ hC3)
            have HV : Hid (Vr w3 p b W N H) := by
              have := hC3.var
              rw [HNN.out] at this
              exact this
            obtain ⟨o, ho⟩ : ∃ o, y * W = o := ⟨_, rfl⟩
            have hon : o + x < N := by rw [← ho, ← HNN.out]; exact place_lt hgx hgy
            have m1 : (y : Int) * (W : Int) = (o : Int) := by rw [← ho, Int.natCast_mul]
            obtain ⟨Z, hZ⟩ : ∃ Z, o + x = Z := ⟨_, rfl⟩
            have k1 : IntKind.i64.wrap (o : Int) = (o : Int) := by
              rw [IntKind.wrap_i64]
              omega
            have k2 : IntKind.i64.wrap ((o : Int) + (x : Int)) = (Z : Int) := by
              rw [IntKind.wrap_i64]
              omega
            have k3 : Z < N := by omega
            have l3 := hC3.lt.1
            rw [ho, hZ] at c0 fz HP
            clear hb3 l0 d0 HC2 HR2 HK2 hC3 hz ho hZ hon
            go_wp2
            refine wp_region_held_drew (S := fun x => Vr x p b W N H) (by kernel_rfl) ?hh (fun hHeld => ?_)
            case hh => exact (HV.out)
            refine wpAnyH_take (i := 0) (v := ?_) rfl (by kernel_rfl) (by kernel_rfl) (by kernel_rfl) (fun _ _ _ h => h) (Or.inl ⟨by kernel_rfl, ?hy0⟩) (by assumption) ?_
            case hy0 => (intro w hSw; (try dsimp only at hSw); have t0 := hSw.c0; have t2 := hSw.c2; go_simp; try with_reducible rfl)
            try simp only [Act.put, List.getElem_toArray, List.getElem_cons_zero, List.setIfInBounds_toArray, List.set_cons_zero, List.set_cons_succ]
            refine wpAnyH_take (i := 1) (v := ?_) rfl (by kernel_rfl) (by kernel_rfl) (by kernel_rfl) (fun _ _ _ h => h) (Or.inl ⟨by kernel_rfl, ?hy1⟩) (by assumption) ?_
            case hy1 => (intro w hSw; (try dsimp only at hSw); have t0 := hSw.c0; have t2 := hSw.c2; go_simp; try with_reducible rfl)
            try simp only [Act.put, List.getElem_toArray, List.getElem_cons_zero, List.getElem_cons_succ, List.setIfInBounds_toArray, List.set_cons_zero, List.set_cons_succ]
            refine wpAnyH_take (i := 2) (v := ?_) rfl (by kernel_rfl) (by kernel_rfl) (by kernel_rfl) (fun _ _ _ h => h) (Or.inl ⟨by kernel_rfl, ?hy2⟩) (by assumption) ?_
            case hy2 => (intro w hSw; (try dsimp only at hSw); have t0 := hSw.c0; have t2 := hSw.c2; go_simp; try with_reducible rfl)
            try simp only [Act.put, List.getElem_toArray, List.getElem_cons_zero, List.getElem_cons_succ, List.setIfInBounds_toArray, List.set_cons_zero, List.set_cons_succ]
            refine wpAnyH_take (i := 3) (v := ?_) rfl (by kernel_rfl) (by kernel_rfl) (by kernel_rfl) (fun _ _ _ h => h) (Or.inl ⟨by kernel_rfl, ?hy3⟩) (by assumption) ?_
            case hy3 => (intro w hSw; (try dsimp only at hSw); have t0 := hSw.c0; have t2 := hSw.c2; go_simp; try with_reducible rfl)
            try simp only [Act.put, List.getElem_toArray, List.getElem_cons_zero, List.getElem_cons_succ, List.setIfInBounds_toArray, List.set_cons_zero, List.set_cons_succ]
            refine wpAnyH_take (i := 4) (v := ?_) rfl (by kernel_rfl) (by kernel_rfl) (by kernel_rfl) (fun _ _ _ h => h) (Or.inl ⟨by kernel_rfl, ?hy4⟩) (by assumption) ?_
            case hy4 => (intro w hSw; (try dsimp only at hSw); have t0 := hSw.c0; have t2 := hSw.c2; go_simp; try with_reducible rfl)
            try simp only [Act.put, List.getElem_toArray, List.getElem_cons_zero, List.getElem_cons_succ, List.setIfInBounds_toArray, List.set_cons_zero, List.set_cons_succ]
            refine wpAnyH_take (i := 5) (v := ?_) rfl (by kernel_rfl) (by kernel_rfl) (by kernel_rfl) (fun _ _ _ h => h) (Or.inl ⟨by kernel_rfl, ?hy5⟩) (by assumption) ?_
            case hy5 => (intro w hSw; (try dsimp only at hSw); have t0 := hSw.c0; have t2 := hSw.c2; go_simp; try with_reducible rfl)
            try simp only [Act.put, List.getElem_toArray, List.getElem_cons_zero, List.getElem_cons_succ, List.setIfInBounds_toArray, List.set_cons_zero, List.set_cons_succ]
            refine wpAnyH_take (i := 6) (v := ?_) rfl (by kernel_rfl) (by kernel_rfl) (by kernel_rfl) (fun _ _ _ h => h) (Or.inl ⟨by kernel_rfl, ?hy6⟩) (by assumption) ?_
            case hy6 => (intro w hSw; (try dsimp only at hSw); have t0 := hSw.c0; have t2 := hSw.c2; go_simp; try with_reducible rfl)
            try simp only [Act.put, List.getElem_toArray, List.getElem_cons_zero, List.getElem_cons_succ, List.setIfInBounds_toArray, List.set_cons_zero, List.set_cons_succ]
            refine wpAnyH_take (i := 7) (v := ?_) rfl (by kernel_rfl) (by kernel_rfl) (by kernel_rfl) (fun _ _ _ h => h) (Or.inl ⟨by kernel_rfl, ?hy7⟩) (by assumption) ?_
            case hy7 => (intro w hSw; (try dsimp only at hSw); have t0 := hSw.c0; have t2 := hSw.c2; go_simp; try with_reducible rfl)
            try simp only [Act.put, List.getElem_toArray, List.getElem_cons_zero, List.getElem_cons_succ, List.setIfInBounds_toArray, List.set_cons_zero, List.set_cons_succ]
            refine wpAnyH_take (i := 8) (v := ?_) rfl (by kernel_rfl) (by kernel_rfl) (by kernel_rfl) (fun _ _ _ h => h) (Or.inl ⟨by kernel_rfl, ?hy8⟩) (by assumption) ?_
            case hy8 => (intro w hSw; (try dsimp only at hSw); have t0 := hSw.c0; have t2 := hSw.c2; go_simp; try with_reducible rfl)
            try simp only [Act.put, List.getElem_toArray, List.getElem_cons_zero, List.getElem_cons_succ, List.setIfInBounds_toArray, List.set_cons_zero, List.set_cons_succ]
            refine wpAnyH_take (i := 9) (v := ?_) rfl (by kernel_rfl) (by kernel_rfl) (by kernel_rfl) (fun _ _ _ h => h) (Or.inl ⟨by kernel_rfl, ?hy9⟩) (by assumption) ?_
            case hy9 => (intro w hSw; (try dsimp only at hSw); have t0 := hSw.c0; have t2 := hSw.c2; go_simp; try with_reducible rfl)
            try simp only [Act.put, List.getElem_toArray, List.getElem_cons_zero, List.getElem_cons_succ, List.setIfInBounds_toArray, List.set_cons_zero, List.set_cons_succ]
            refine wpAnyH_take (i := 10) (v := ?_) rfl (by kernel_rfl) (by kernel_rfl) (by kernel_rfl) (fun _ _ _ h => h) (Or.inl ⟨by kernel_rfl, ?hy10⟩) (by assumption) ?_
            case hy10 => (intro w hSw; (try dsimp only at hSw); have t0 := hSw.c0; have t2 := hSw.c2; go_simp; try with_reducible rfl)
            try simp only [Act.put, List.getElem_toArray, List.getElem_cons_zero, List.getElem_cons_succ, List.setIfInBounds_toArray, List.set_cons_zero, List.set_cons_succ]
            refine wpAnyH_take (i := 11) (v := ?_) rfl (by kernel_rfl) (by kernel_rfl) (by kernel_rfl) (fun _ _ _ h => h) (Or.inl ⟨by kernel_rfl, ?hy11⟩) (by assumption) ?_
            case hy11 => (intro w hSw; (try dsimp only at hSw); have t0 := hSw.c0; have t2 := hSw.c2; go_simp; try with_reducible rfl)
            try simp only [Act.put, List.getElem_toArray, List.getElem_cons_zero, List.getElem_cons_succ, List.setIfInBounds_toArray, List.set_cons_zero, List.set_cons_succ]
            refine wpAnyH_take (i := 12) (v := ?_) rfl (by kernel_rfl) (by kernel_rfl) (by kernel_rfl) (fun _ _ _ h => h) (Or.inl ⟨by kernel_rfl, ?hy12⟩) (by assumption) ?_
            case hy12 => (intro w hSw; (try dsimp only at hSw); have t0 := hSw.c0; have t2 := hSw.c2; go_simp; try with_reducible rfl)
            try simp only [Act.put, List.getElem_toArray, List.getElem_cons_zero, List.getElem_cons_succ, List.setIfInBounds_toArray, List.set_cons_zero, List.set_cons_succ]
            refine wpAnyH_take (i := 13) (v := ?_) rfl (by kernel_rfl) (by kernel_rfl) (by kernel_rfl) (fun _ _ _ h => h) (Or.inl ⟨by kernel_rfl, ?hy13⟩) (by assumption) ?_
            case hy13 => (intro w hSw; (try dsimp only at hSw); have t0 := hSw.c0; have t2 := hSw.c2; go_simp; try with_reducible rfl)
            try simp only [Act.put, List.getElem_toArray, List.getElem_cons_zero, List.getElem_cons_succ, List.setIfInBounds_toArray, List.set_cons_zero, List.set_cons_succ]
            refine wpAnyH_ready (rs := [14]) (by kernel_rfl) (by simp) ?_
            refine AllReadyH.cons rfl (fun K hK => ?_) AllReadyH.nil
            go_simp
            refine hK.out _ _ (hHeld.set ne _ _) (fun _ => ?_)
            clear hK K
            refine wpAnyH_done (by kernel_rfl) ?_ _
            obtain ⟨U, HU⟩ : ∃ U, Hid (U = w3.setCell ⟨b, Z, none⟩ (.int .u32 v)) := ⟨_, rfl⟩
            have hk4 : Kp [b] w3 U := by rw [HU.out]; exact (Kp.refl [b] w3).set _ (by simp) _
            rw [← HU.out] at HP
            have HD := hid (below_drewN (Below.refl U.heap.size U) 1)
            have HC4 := hid (HP.out.on HD.out)
            have HR4 := hid ((HR3.out.kept hk4 HNX.out).on HD.out)
            have HK4 := hid ((HK3.out.trans hk4 (fun k hk _ => hk)).trans (kp_of_below HD.out []) (by simp))
            rw [HU.out] at HC4 HR4 HK4
            clear HU hk4 HP HD HR3 HK3 hHeld HNX
            go_wp2
            go_roundw
            case rel => exact ⟨x + 1, by go_num, by omega, HC4.out, HR4.out, HK4.out⟩
            case measure => simp [numOf]; omega
        · have e2 : decide ((x : Int) < W) = false := decide_eq_false (by omega)
          obtain rfl : x = W := by omega
          have HC3 := HC2
          rw [dR_row HL.out] at HC3
          clear HC2
          go_wp2
          go_roundw
          case rel => exact ⟨y + 1, by go_num, by omega, HC3.out, HR2.out, HK2.out⟩
          case measure => simp [numOf]; omega
    · have e1 : decide ((y : Int) < H) = false := decide_eq_false (by omega)
      obtain rfl : y = H := by omega
      have HC3 := HC1
      rw [dR_end HL.out] at HC3
      clear HC1
      go_wp2
      go_end0
      exact ⟨rfl, HC3.out, HK1.out⟩
end Go.Proofs.YtlkodgmnhphfcaaGreatDoor

/- The document's Draw. -/
namespace Go.Proofs.YtlkodgmnhphfcaaGreatDoor
open Go Go.RowKit

variable {w w' : World} {p b W H : Nat} {L : List Int}

theorem RdI.kept {k : IntKind} {a : Option Addr} {n c : Nat} {zs : List Int} {X : List Nat} (h : RdI k w a n c zs) (hk : Kp X w w') (hab : 0 < n → ∀ x, a = some x → x.block ∉ X) : RdI k w' a n c zs :=
  ⟨h.len, h.le, h.max, h.hnil, fun z hz j hj => by
    have h' := h.cells z hz j hj
    obtain ⟨b', off, e, _⟩ := h.plain (by omega)
    rw [hz] at e
    cases e
    rw [Go.WideShapes.add_plain] at h' ⊢
    exact hk.cell h' (show b' ∉ X from hab (by omega) _ hz), h.wf⟩

set_option maxRecDepth 100000 in
set_option maxHeartbeats 8000000 in
theorem rdraw_any (h : Cv 46 w p b W H L) (x0 y0 s t : Int) (_hx0 : I64 x0) (_hy0 : I64 y0) (_hs0 : I64 s) (_ht0 : I64 t) (a' : Option Addr) (m c' : Nat) (pix : List Int) (hp : RdI .u32 w a' m c' pix) (hm : m ≤ 400) (hab : 0 < m → ∀ x, a' = some x → x.block ≠ b) (a : Option Addr) (n c : Nat) (l : List Rc) (hr : RdC w a n c l) :
    Calls Tryz.prog 32 #[.pointer (some ⟨p, 0, none⟩), .int .i64 x0, .int .i64 y0, .int .i64 s, .int .i64 t, .slice a' m c', .slice a n c] w fun e w' => e = .returned (.tuple #[]) ∧ Cv 46 w' p b W H (drw W x0 y0 s t pix l L) ∧ Kp [b] w w' := by
  have HL := hid h.len
  have HC := hid h
  have HR := hid hr
  have HI := hid hp
  have HAB : Hid (0 < m → ∀ x, a' = some x → x.block ∉ [b]) := fun h0 x hx => by simpa using hab h0 x hx
  have hW := h.hW
  have hH := h.hH
  have ne := h.ne
  have hpl := hp.len
  have HPC := hid (fun z hz => col_of hp (z := z) hz)
  obtain ⟨N, hN⟩ : ∃ N, W * H = N := ⟨_, rfl⟩
  have hN1 : N ≤ 2304 := by rw [← hN]; exact Nat.mul_le_mul hW.2 hH.2
  have HNN := hid hN
  clear h hr hN hp hab
  have no : okD x0 y0 s t = false → Hid (drw W x0 y0 s t pix l L = L) := fun h => by rw [Hid, drw, if_neg (by rw [h]; decide)]
  go_enter Tryz.func32, Tryz.ntmps32
  by_cases h1 : s < 1
  · have e0 : decide (s < 1) = true := decide_eq_true h1
    have HF := no (by
      rw [okD, Bool.eq_false_iff]
      simp only [ne_eq, Bool.and_eq_true, decide_eq_true_eq]
      omega)
    clear no
    go_wp2
    refine bodyPost_ret (results_none rfl _ _ _) rfl ?_
    rw [HF.out]
    exact ⟨rfl, HC.out, Kp.refl _ _⟩
  have eh1 : decide (s < 1) = false := decide_eq_false h1
  by_cases h2 : t < 1
  · have e0 : decide (t < 1) = true := decide_eq_true h2
    have HF := no (by
      rw [okD, Bool.eq_false_iff]
      simp only [ne_eq, Bool.and_eq_true, decide_eq_true_eq]
      omega)
    clear no
    go_wp2
    refine bodyPost_ret (results_none rfl _ _ _) rfl ?_
    rw [HF.out]
    exact ⟨rfl, HC.out, Kp.refl _ _⟩
  have eh2 : decide (t < 1) = false := decide_eq_false h2
  by_cases h3 : 16777216 < s
  · have e0 : decide (16777216 < s) = true := decide_eq_true h3
    have HF := no (by
      rw [okD, Bool.eq_false_iff]
      simp only [ne_eq, Bool.and_eq_true, decide_eq_true_eq]
      omega)
    clear no
    go_wp2
    refine bodyPost_ret (results_none rfl _ _ _) rfl ?_
    rw [HF.out]
    exact ⟨rfl, HC.out, Kp.refl _ _⟩
  have eh3 : decide (16777216 < s) = false := decide_eq_false h3
  by_cases h4 : 16777216 < t
  · have e0 : decide (16777216 < t) = true := decide_eq_true h4
    have HF := no (by
      rw [okD, Bool.eq_false_iff]
      simp only [ne_eq, Bool.and_eq_true, decide_eq_true_eq]
      omega)
    clear no
    go_wp2
    refine bodyPost_ret (results_none rfl _ _ _) rfl ?_
    rw [HF.out]
    exact ⟨rfl, HC.out, Kp.refl _ _⟩
  have eh4 : decide (16777216 < t) = false := decide_eq_false h4
  by_cases h5 : x0 < -16777216
  · have e0 : decide (x0 < -16777216) = true := decide_eq_true h5
    have HF := no (by
      rw [okD, Bool.eq_false_iff]
      simp only [ne_eq, Bool.and_eq_true, decide_eq_true_eq]
      omega)
    clear no
    go_wp2
    refine bodyPost_ret (results_none rfl _ _ _) rfl ?_
    rw [HF.out]
    exact ⟨rfl, HC.out, Kp.refl _ _⟩
  have eh5 : decide (x0 < -16777216) = false := decide_eq_false h5
  by_cases h6 : 16777216 < x0
  · have e0 : decide (16777216 < x0) = true := decide_eq_true h6
    have HF := no (by
      rw [okD, Bool.eq_false_iff]
      simp only [ne_eq, Bool.and_eq_true, decide_eq_true_eq]
      omega)
    clear no
    go_wp2
    refine bodyPost_ret (results_none rfl _ _ _) rfl ?_
    rw [HF.out]
    exact ⟨rfl, HC.out, Kp.refl _ _⟩
  have eh6 : decide (16777216 < x0) = false := decide_eq_false h6
  by_cases h7 : y0 < -16777216
  · have e0 : decide (y0 < -16777216) = true := decide_eq_true h7
    have HF := no (by
      rw [okD, Bool.eq_false_iff]
      simp only [ne_eq, Bool.and_eq_true, decide_eq_true_eq]
      omega)
    clear no
    go_wp2
    refine bodyPost_ret (results_none rfl _ _ _) rfl ?_
    rw [HF.out]
    exact ⟨rfl, HC.out, Kp.refl _ _⟩
  have eh7 : decide (y0 < -16777216) = false := decide_eq_false h7
  by_cases h8 : 16777216 < y0
  · have e0 : decide (16777216 < y0) = true := decide_eq_true h8
    have HF := no (by
      rw [okD, Bool.eq_false_iff]
      simp only [ne_eq, Bool.and_eq_true, decide_eq_true_eq]
      omega)
    clear no
    go_wp2
    refine bodyPost_ret (results_none rfl _ _ _) rfl ?_
    rw [HF.out]
    exact ⟨rfl, HC.out, Kp.refl _ _⟩
  have eh8 : decide (16777216 < y0) = false := decide_eq_false h8
  have hok : okD x0 y0 s t = true := by
    rw [okD]
    simp only [Bool.and_eq_true, decide_eq_true_eq]
    omega
  have HEQ : Hid (drw W x0 y0 s t pix l L = trn W (gD x0 y0 s pix) (fun u v => has ⟨x0, y0, s, t⟩ u v && inC l u v) L) := by rw [Hid, drw, if_pos hok]
  rw [HEQ.out]
  obtain ⟨D, HD⟩ : ∃ D : Int → Int → Bool, Hid (D = fun u v => has ⟨x0, y0, s, t⟩ u v && inC l u v) := ⟨_, rfl⟩
  rw [← HD.out]
  obtain ⟨S, rfl⟩ : ∃ S : Nat, s = S := ⟨s.toNat, by omega⟩
  clear no hok HEQ _hs0 _ht0 _hx0 _hy0
  go_wp2
  clear eh1 eh2 eh3 eh4 eh5 eh6 eh7 eh8
  go_loopw [14] (fun q wr => ∃ y : Nat, q = .int .i64 y ∧ y ≤ H ∧ Cv 46 wr p b W H (trn W (gD x0 y0 S pix) (dR D y 0) L) ∧ RdC wr a n c l ∧ RdI .u32 wr a' m c' pix ∧ Kp [b] w wr) (fun q _ => H - (numOf q).toNat)
  case atStart => exact ⟨0, rfl, by omega, by rw [Int.ofNat_zero, dR_start HL.out]; exact HC.out, HR.out, HI.out, Kp.refl _ _⟩
  case round =>
    obtain ⟨y, rfl, hy, hC1, hR1, hI1, hK1⟩ := hrel
    have HC1 := hid hC1
    have HR1 := hid hR1
    have HI1 := hid hI1
    have HK1 := hid hK1
    have l0 := hC1.lt.1
    have d1 := hC1.c1
    clear hC1 hR1 hK1 hI1 HC HR HI
    by_cases hgy : y < H
    · have e1 : decide ((y : Int) < H) = true := decide_eq_true (by omega)
      go_wp2
      clear l0 d1
      go_loopw [15] (fun q wr => ∃ x : Nat, q = .int .i64 x ∧ x ≤ W ∧ Cv 46 wr p b W H (trn W (gD x0 y0 S pix) (dR D y x) L) ∧ RdC wr a n c l ∧ RdI .u32 wr a' m c' pix ∧ Kp [b] w wr) (fun q _ => W - (numOf q).toNat)
      case atStart => exact ⟨0, rfl, by omega, HC1.out, HR1.out, HI1.out, HK1.out⟩
      case round =>
        obtain ⟨x, rfl, hx, hC2, hR2, hI2, hK2⟩ := hrel
        have HC2 := hid hC2
        have HR2 := hid hR2
        have HI2 := hid hI2
        have HK2 := hid hK2
        have l0 := hC2.lt.1
        have d0 := hC2.c0
        clear hC2 hR2 hI2 hK2 HC1 HR1 HI1 HK1
        by_cases hgx : x < W
        · have e2 : decide ((x : Int) < W) = true := decide_eq_true (by omega)
          have HNO : Hid (¬ (x0 ≤ (x : Int) ∧ (x : Int) - x0 < S ∧ y0 ≤ (y : Int) ∧ (y : Int) - y0 < t) → D x y = false) := fun h => by
            rw [HD.out, Bool.and_eq_false_iff]
            left
            rw [Bool.eq_false_iff]
            intro h'
            apply h
            have := has_iff.1 h'
            dsimp only at this
            omega
          by_cases g1 : (x : Int) < x0
          · have e0 : decide ((x : Int) < x0) = true := decide_eq_true g1
            have hdn := HNO.out (by omega)
            have HE : Hid (trn W (gD x0 y0 S pix) (dR D y x) L = trn W (gD x0 y0 S pix) (dR D y (x + 1 : Nat)) L) := by rw [Hid, dR_none hdn]
            rw [HE.out] at HC2
            clear HE hdn HNO
            go_wp2
            go_roundw
            case rel => exact ⟨x + 1, by go_num, by omega, HC2.out, HR2.out, HI2.out, HK2.out⟩
            case measure => simp [numOf]; omega
          have eg1 : decide ((x : Int) < x0) = false := decide_eq_false g1
          by_cases g2 : (S : Int) ≤ (x : Int) - x0
          · have e0 : decide ((S : Int) ≤ (x : Int) - x0) = true := decide_eq_true g2
            have hdn := HNO.out (by omega)
            have HE : Hid (trn W (gD x0 y0 S pix) (dR D y x) L = trn W (gD x0 y0 S pix) (dR D y (x + 1 : Nat)) L) := by rw [Hid, dR_none hdn]
            rw [HE.out] at HC2
            clear HE hdn HNO
            go_wp2
            go_roundw
            case rel => exact ⟨x + 1, by go_num, by omega, HC2.out, HR2.out, HI2.out, HK2.out⟩
            case measure => simp [numOf]; omega
          have eg2 : decide ((S : Int) ≤ (x : Int) - x0) = false := decide_eq_false g2
          by_cases g3 : (y : Int) < y0
          · have e0 : decide ((y : Int) < y0) = true := decide_eq_true g3
            have hdn := HNO.out (by omega)
            have HE : Hid (trn W (gD x0 y0 S pix) (dR D y x) L = trn W (gD x0 y0 S pix) (dR D y (x + 1 : Nat)) L) := by rw [Hid, dR_none hdn]
            rw [HE.out] at HC2
            clear HE hdn HNO
            go_wp2
            go_roundw
            case rel => exact ⟨x + 1, by go_num, by omega, HC2.out, HR2.out, HI2.out, HK2.out⟩
            case measure => simp [numOf]; omega
          have eg3 : decide ((y : Int) < y0) = false := decide_eq_false g3
          by_cases g4 : t ≤ (y : Int) - y0
          · have e0 : decide (t ≤ (y : Int) - y0) = true := decide_eq_true g4
            have hdn := HNO.out (by omega)
            have HE : Hid (trn W (gD x0 y0 S pix) (dR D y x) L = trn W (gD x0 y0 S pix) (dR D y (x + 1 : Nat)) L) := by rw [Hid, dR_none hdn]
            rw [HE.out] at HC2
            clear HE hdn HNO
            go_wp2
            go_roundw
            case rel => exact ⟨x + 1, by go_num, by omega, HC2.out, HR2.out, HI2.out, HK2.out⟩
            case measure => simp [numOf]; omega
          have eg4 : decide (t ≤ (y : Int) - y0) = false := decide_eq_false g4
          have hh : has ⟨x0, y0, S, t⟩ (x : Int) (y : Int) = true := has_iff.2 (by dsimp only; omega)
          have CI := hid (rin14_any a n c l wr HR2.out x y (by rw [I64]; omega) (by rw [I64]; omega))
          obtain ⟨dy, hdy⟩ : ∃ dy : Nat, (y : Int) - y0 = dy := ⟨((y : Int) - y0).toNat, by omega⟩
          obtain ⟨M, hM⟩ : ∃ M, dy * S = M := ⟨_, rfl⟩
          have hMb : M ≤ 16777300 * 16777216 := by rw [← hM]; exact Nat.mul_le_mul (by omega) (by omega)
          have m1 : ((y : Int) - y0) * (S : Int) = (M : Int) := by rw [hdy, ← hM, Int.natCast_mul]
          obtain ⟨F, hF⟩ : ∃ F : Nat, (M : Int) + x - x0 = F := ⟨((M : Int) + x - x0).toNat, by omega⟩
          have HKK : Hid (kk x0 y0 S (x : Int) y = F) := kk_eq (i := 0) (by rw [m1]; exact hF)
          clear hdy hM
          cases hq : inC l x y
          · have hdn : D x y = false := by
              rw [HD.out]
              show (_ && inC l x y) = false
              rw [hq, Bool.and_false]
            have HE : Hid (trn W (gD x0 y0 S pix) (dR D y x) L = trn W (gD x0 y0 S pix) (dR D y (x + 1 : Nat)) L) := by rw [Hid, dR_none hdn]
            rw [HE.out] at HC2
            rw [hq] at CI
            clear HE hdn HNO hF m1
            go_wp2_with fail
            refine CI.out.mono ?_
            rintro e w3 ⟨rfl, hb3⟩
            have HC3 := hid (HC2.out.on hb3)
            have HR3 := hid (HR2.out.on hb3)
            have HI3 := hid (HI2.out.on hb3)
            have HK3 := hid (HK2.out.trans (kp_of_below hb3 []) (by simp))
            clear hb3 l0 d0 HC2 HR2 HI2 HK2
            go_wp2
            go_roundw
            case rel => exact ⟨x + 1, by go_num, by omega, HC3.out, HR3.out, HI3.out, HK3.out⟩
            case measure => simp [numOf]; omega
          · have hdy' : D x y = true := by
              rw [HD.out]
              show (has ⟨x0, y0, S, t⟩ (x : Int) (y : Int) && inC l x y) = true
              rw [hq, hh]
              rfl
            rw [hq] at CI
            clear HNO
            go_wp2_with fail
            refine CI.out.mono ?_
            rintro e w3 ⟨rfl, hb3⟩
            have hC3 := HC2.out.on hb3
            have HR3 := hid (HR2.out.on hb3)
            have HI3 := hid (HI2.out.on hb3)
            have HK3 := hid (HK2.out.trans (kp_of_below hb3 []) (by simp))
            obtain ⟨z, hz, hzc⟩ := hC3.at_ hgx hgy
            have c0 := hC3.cell hz
            have fz := hC3.fz (y * W + x)
            rw [dR_val hgx] at hz
            clear hb3 l0 d0 HC2 HR2 HI2 HK2 CI
            by_cases hgo : F < m
            · have f1 : decide ((F : Int) < m) = true := decide_eq_true (by omega)
              obtain ⟨o', ho'⟩ : ∃ o', pix[F]? = some o' := ⟨_, List.getElem?_eq_getElem (by omega)⟩
              have hoc : Col o' := HPC.out o' (List.mem_of_getElem? ho')
              have HG : Hid (ovr z o' = gD x0 y0 S pix x y z) := by rw [Hid, gD, HKK.out, ho']
              have HP := hid (hC3.put hgx hgy hdy' hz HG.out (ovr_bd _ _))
              have HNX : Hid (∀ i z, w3.cell? ⟨b, i, none⟩ ≠ some (.int .i64 z)) := fun i z h => hC3.no64 h
              obtain ⟨b', off, rfl, hbl, hcells⟩ := HI3.out.plain (by omega)
              have hb'b : b' ≠ b := by simpa using HAB.out (by omega) _ rfl
              have cp := hcells F (by omega)
              rw [List.getD, ho'] at cp
              dsimp only [Option.getD] at cp
              have HV : Hid (Vr w3 p b W N H) := by
                have := hC3.var
                rw [HNN.out] at this
                exact this
              obtain ⟨o, ho⟩ : ∃ o, y * W = o := ⟨_, rfl⟩
              have hon : o + x < N := by rw [← ho, ← HNN.out]; exact place_lt hgx hgy
              have m3 : (y : Int) * (W : Int) = (o : Int) := by rw [← ho, Int.natCast_mul]
              obtain ⟨Z, hZ⟩ : ∃ Z, o + x = Z := ⟨_, rfl⟩
              have k1 : IntKind.i64.wrap (o : Int) = (o : Int) := by
                rw [IntKind.wrap_i64]
                omega
              have k2 : IntKind.i64.wrap ((o : Int) + (x : Int)) = (Z : Int) := by
                rw [IntKind.wrap_i64]
                omega
              have k3 : Z < N := by omega
              have k4 : F < m := hgo
              have l3 := hC3.lt.1
              rw [ho, hZ] at c0 fz HP
              have CO := hid (fun u => rover_any z o' hzc hoc u)
              clear hC3 hz ho hZ hon hcells hh hdy' HG
              go_wp2
              refine wp_region_held_drew (S := fun x => Vr x p b W N H ∧ x.cell? ⟨b', off + F, none⟩ = some (.int .u32 o')) (by kernel_rfl) ?hh (fun hHeld => ?_)
              case hh => exact (⟨HV.out, cp⟩)
              refine wpAnyH_take (i := 0) (v := ?_) rfl (by kernel_rfl) (by kernel_rfl) (by kernel_rfl) (fun _ _ _ h => h) (Or.inl ⟨by kernel_rfl, ?hy0⟩) (by assumption) ?_
              case hy0 => (intro w hSw; (try dsimp only at hSw); obtain ⟨tv, tp⟩ := hSw; have t0 := tv.c0; have t2 := tv.c2; go_simp; try with_reducible rfl)
              try simp only [Act.put, List.getElem_toArray, List.getElem_cons_zero, List.setIfInBounds_toArray, List.set_cons_zero, List.set_cons_succ]
              refine wpAnyH_take (i := 1) (v := ?_) rfl (by kernel_rfl) (by kernel_rfl) (by kernel_rfl) (fun _ _ _ h => h) (Or.inl ⟨by kernel_rfl, ?hy1⟩) (by assumption) ?_
              case hy1 => (intro w hSw; (try dsimp only at hSw); obtain ⟨tv, tp⟩ := hSw; have t0 := tv.c0; have t2 := tv.c2; go_simp; try with_reducible rfl)
              try simp only [Act.put, List.getElem_toArray, List.getElem_cons_zero, List.getElem_cons_succ, List.setIfInBounds_toArray, List.set_cons_zero, List.set_cons_succ]
              refine wpAnyH_take (i := 2) (v := ?_) rfl (by kernel_rfl) (by kernel_rfl) (by kernel_rfl) (fun _ _ _ h => h) (Or.inl ⟨by kernel_rfl, ?hy2⟩) (by assumption) ?_
              case hy2 => (intro w hSw; (try dsimp only at hSw); obtain ⟨tv, tp⟩ := hSw; have t0 := tv.c0; have t2 := tv.c2; go_simp; try with_reducible rfl)
              try simp only [Act.put, List.getElem_toArray, List.getElem_cons_zero, List.getElem_cons_succ, List.setIfInBounds_toArray, List.set_cons_zero, List.set_cons_succ]
              refine wpAnyH_take (i := 3) (v := ?_) rfl (by kernel_rfl) (by kernel_rfl) (by kernel_rfl) (fun _ _ _ h => h) (Or.inl ⟨by kernel_rfl, ?hy3⟩) (by assumption) ?_
              case hy3 => (intro w hSw; (try dsimp only at hSw); obtain ⟨tv, tp⟩ := hSw; have t0 := tv.c0; have t2 := tv.c2; go_simp; try with_reducible rfl)
              try simp only [Act.put, List.getElem_toArray, List.getElem_cons_zero, List.getElem_cons_succ, List.setIfInBounds_toArray, List.set_cons_zero, List.set_cons_succ]
              refine wpAnyH_take (i := 4) (v := ?_) rfl (by kernel_rfl) (by kernel_rfl) (by kernel_rfl) (fun _ _ _ h => h) (Or.inl ⟨by kernel_rfl, ?hy4⟩) (by assumption) ?_
              case hy4 => (intro w hSw; (try dsimp only at hSw); obtain ⟨tv, tp⟩ := hSw; have t0 := tv.c0; have t2 := tv.c2; go_simp; try with_reducible rfl)
              try simp only [Act.put, List.getElem_toArray, List.getElem_cons_zero, List.getElem_cons_succ, List.setIfInBounds_toArray, List.set_cons_zero, List.set_cons_succ]
              refine wpAnyH_take (i := 5) (v := ?_) rfl (by kernel_rfl) (by kernel_rfl) (by kernel_rfl) (fun _ _ _ h => h) (Or.inl ⟨by kernel_rfl, ?hy5⟩) (by assumption) ?_
              case hy5 => (intro w hSw; (try dsimp only at hSw); obtain ⟨tv, tp⟩ := hSw; have t0 := tv.c0; have t2 := tv.c2; go_simp; try with_reducible rfl)
              try simp only [Act.put, List.getElem_toArray, List.getElem_cons_zero, List.getElem_cons_succ, List.setIfInBounds_toArray, List.set_cons_zero, List.set_cons_succ]
              refine wpAnyH_take (i := 6) (v := ?_) rfl (by kernel_rfl) (by kernel_rfl) (by kernel_rfl) (fun _ _ _ h => h) (Or.inl ⟨by kernel_rfl, ?hy6⟩) (by assumption) ?_
              case hy6 => (intro w hSw; (try dsimp only at hSw); obtain ⟨tv, tp⟩ := hSw; have t0 := tv.c0; have t2 := tv.c2; go_simp; try with_reducible rfl)
              try simp only [Act.put, List.getElem_toArray, List.getElem_cons_zero, List.getElem_cons_succ, List.setIfInBounds_toArray, List.set_cons_zero, List.set_cons_succ]
              refine wpAnyH_take (i := 7) (v := ?_) rfl (by kernel_rfl) (by kernel_rfl) (by kernel_rfl) (fun _ _ _ h => h) (Or.inl ⟨by kernel_rfl, ?hy7⟩) (by assumption) ?_
              case hy7 => (intro w hSw; (try dsimp only at hSw); obtain ⟨tv, tp⟩ := hSw; have t0 := tv.c0; have t2 := tv.c2; go_simp; try with_reducible rfl)
              try simp only [Act.put, List.getElem_toArray, List.getElem_cons_zero, List.getElem_cons_succ, List.setIfInBounds_toArray, List.set_cons_zero, List.set_cons_succ]
              refine wpAnyH_take (i := 8) (v := ?_) rfl (by kernel_rfl) (by kernel_rfl) (by kernel_rfl) (fun _ _ _ h => h) (Or.inl ⟨by kernel_rfl, ?hy8⟩) (by assumption) ?_
              case hy8 => (intro w hSw; (try dsimp only at hSw); obtain ⟨tv, tp⟩ := hSw; have t0 := tv.c0; have t2 := tv.c2; go_simp; try with_reducible rfl)
              try simp only [Act.put, List.getElem_toArray, List.getElem_cons_zero, List.getElem_cons_succ, List.setIfInBounds_toArray, List.set_cons_zero, List.set_cons_succ]
              refine wpAnyH_take (i := 9) (v := ?_) rfl (by kernel_rfl) (by kernel_rfl) (by kernel_rfl) (fun _ _ _ h => h) (Or.inl ⟨by kernel_rfl, ?hy9⟩) (by assumption) ?_
              case hy9 => (intro w hSw; (try dsimp only at hSw); obtain ⟨tv, tp⟩ := hSw; have t0 := tv.c0; have t2 := tv.c2; go_simp; try with_reducible rfl)
              try simp only [Act.put, List.getElem_toArray, List.getElem_cons_zero, List.getElem_cons_succ, List.setIfInBounds_toArray, List.set_cons_zero, List.set_cons_succ]
              refine wpAnyH_take (i := 10) (v := ?_) rfl (by kernel_rfl) (by kernel_rfl) (by kernel_rfl) (fun _ _ _ h => h) (Or.inl ⟨by kernel_rfl, ?hy10⟩) (by assumption) ?_
              case hy10 => (intro w hSw; (try dsimp only at hSw); obtain ⟨tv, tp⟩ := hSw; have t0 := tv.c0; have t2 := tv.c2; go_simp; try with_reducible rfl)
              try simp only [Act.put, List.getElem_toArray, List.getElem_cons_zero, List.getElem_cons_succ, List.setIfInBounds_toArray, List.set_cons_zero, List.set_cons_succ]
              refine wpAnyH_take (i := 11) (v := ?_) rfl (by kernel_rfl) (by kernel_rfl) (by kernel_rfl) (fun _ _ _ h => h) (Or.inl ⟨by kernel_rfl, ?hy11⟩) (by assumption) ?_
              case hy11 => (intro w hSw; (try dsimp only at hSw); obtain ⟨tv, tp⟩ := hSw; have t0 := tv.c0; have t2 := tv.c2; go_simp; try with_reducible rfl)
              try simp only [Act.put, List.getElem_toArray, List.getElem_cons_zero, List.getElem_cons_succ, List.setIfInBounds_toArray, List.set_cons_zero, List.set_cons_succ]
              refine wpAnyH_take (i := 12) (v := ?_) rfl (by kernel_rfl) (by kernel_rfl) (by kernel_rfl) (fun _ _ _ h => h) (Or.inl ⟨by kernel_rfl, ?hy12⟩) (by assumption) ?_
              case hy12 => (intro w hSw; (try dsimp only at hSw); obtain ⟨tv, tp⟩ := hSw; have t0 := tv.c0; have t2 := tv.c2; go_simp; try with_reducible rfl)
              try simp only [Act.put, List.getElem_toArray, List.getElem_cons_zero, List.getElem_cons_succ, List.setIfInBounds_toArray, List.set_cons_zero, List.set_cons_succ]
              refine wpAnyH_take (i := 13) (v := ?_) rfl (by kernel_rfl) (by kernel_rfl) (by kernel_rfl) (fun _ _ _ h => h) (Or.inl ⟨by kernel_rfl, ?hy13⟩) (by assumption) ?_
              case hy13 => (intro w hSw; (try dsimp only at hSw); obtain ⟨tv, tp⟩ := hSw; have t0 := tv.c0; have t2 := tv.c2; go_simp; try with_reducible rfl)
              try simp only [Act.put, List.getElem_toArray, List.getElem_cons_zero, List.getElem_cons_succ, List.setIfInBounds_toArray, List.set_cons_zero, List.set_cons_succ]
              refine wpAnyH_take (i := 14) (v := ?_) rfl (by kernel_rfl) (by kernel_rfl) (by kernel_rfl) (fun _ _ _ h => h) (Or.inl ⟨by kernel_rfl, ?hy14⟩) (by assumption) ?_
              case hy14 => (intro w hSw; (try dsimp only at hSw); obtain ⟨tv, tp⟩ := hSw; have t0 := tv.c0; have t2 := tv.c2; go_simp; try with_reducible rfl)
              try simp only [Act.put, List.getElem_toArray, List.getElem_cons_zero, List.getElem_cons_succ, List.setIfInBounds_toArray, List.set_cons_zero, List.set_cons_succ]
              refine wpAnyH_take (i := 15) (v := ?_) rfl (by kernel_rfl) (by kernel_rfl) (by kernel_rfl) (fun _ _ _ h => h) (Or.inl ⟨by kernel_rfl, ?hy15⟩) (by assumption) ?_
              case hy15 => (intro w hSw; (try dsimp only at hSw); obtain ⟨tv, tp⟩ := hSw; have t0 := tv.c0; have t2 := tv.c2; go_simp; try with_reducible rfl)
              try simp only [Act.put, List.getElem_toArray, List.getElem_cons_zero, List.getElem_cons_succ, List.setIfInBounds_toArray, List.set_cons_zero, List.set_cons_succ]
              refine wpAnyH_take (i := 16) (v := ?_) rfl (by kernel_rfl) (by kernel_rfl) (by kernel_rfl) (fun _ _ _ h => h) (Or.inl ⟨by kernel_rfl, ?hy16⟩) (by assumption) ?_
              case hy16 => (intro w hSw; (try dsimp only at hSw); obtain ⟨tv, tp⟩ := hSw; have t0 := tv.c0; have t2 := tv.c2; go_simp; try with_reducible rfl)
              try simp only [Act.put, List.getElem_toArray, List.getElem_cons_zero, List.getElem_cons_succ, List.setIfInBounds_toArray, List.set_cons_zero, List.set_cons_succ]
              refine wpAnyH_take (i := 17) (v := ?_) rfl (by kernel_rfl) (by kernel_rfl) (by kernel_rfl) (fun _ _ _ h => h) (Or.inl ⟨by kernel_rfl, ?hy17⟩) (by assumption) ?_
              case hy17 => (intro w hSw; (try dsimp only at hSw); obtain ⟨tv, tp⟩ := hSw; have t0 := tv.c0; have t2 := tv.c2; go_simp; try with_reducible rfl)
              try simp only [Act.put, List.getElem_toArray, List.getElem_cons_zero, List.getElem_cons_succ, List.setIfInBounds_toArray, List.set_cons_zero, List.set_cons_succ]
              refine wpAnyH_take (i := 18) (v := ?_) rfl (by kernel_rfl) (by kernel_rfl) (by kernel_rfl) (fun _ _ _ h => h) (Or.inl ⟨by kernel_rfl, ?hy18⟩) (by assumption) ?_
              case hy18 => (intro w hSw; (try dsimp only at hSw); obtain ⟨tv, tp⟩ := hSw; have t0 := tv.c0; have t2 := tv.c2; go_simp; try with_reducible rfl)
              try simp only [Act.put, List.getElem_toArray, List.getElem_cons_zero, List.getElem_cons_succ, List.setIfInBounds_toArray, List.set_cons_zero, List.set_cons_succ]
              refine wpAnyH_take (i := 19) (v := ?_) rfl (by kernel_rfl) (by kernel_rfl) (by kernel_rfl) (fun _ _ _ h => h) (Or.inl ⟨by kernel_rfl, ?hy19⟩) (by assumption) ?_
              case hy19 => (intro w hSw; (try dsimp only at hSw); obtain ⟨tv, tp⟩ := hSw; have t0 := tv.c0; have t2 := tv.c2; go_simp; try with_reducible rfl)
              try simp only [Act.put, List.getElem_toArray, List.getElem_cons_zero, List.getElem_cons_succ, List.setIfInBounds_toArray, List.set_cons_zero, List.set_cons_succ]
              refine wpAnyH_take (i := 20) (v := ?_) rfl (by kernel_rfl) (by kernel_rfl) (by kernel_rfl) (fun _ _ _ h => h) (Or.inl ⟨by kernel_rfl, ?hy20⟩) (by assumption) ?_
              case hy20 => (intro w hSw; (try dsimp only at hSw); obtain ⟨tv, tp⟩ := hSw; have t0 := tv.c0; have t2 := tv.c2; go_simp; try with_reducible rfl)
              try simp only [Act.put, List.getElem_toArray, List.getElem_cons_zero, List.getElem_cons_succ, List.setIfInBounds_toArray, List.set_cons_zero, List.set_cons_succ]
              refine wpAnyH_take (i := 21) (v := ?_) rfl (by kernel_rfl) (by kernel_rfl) (by kernel_rfl) (fun _ _ _ h => h) (Or.inl ⟨by kernel_rfl, ?hy21⟩) (by assumption) ?_
              case hy21 => (intro w hSw; (try dsimp only at hSw); obtain ⟨tv, tp⟩ := hSw; have t0 := tv.c0; have t2 := tv.c2; go_simp; try with_reducible rfl)
              try simp only [Act.put, List.getElem_toArray, List.getElem_cons_zero, List.getElem_cons_succ, List.setIfInBounds_toArray, List.set_cons_zero, List.set_cons_succ]
              refine wpAnyH_take (i := 22) (v := ?_) rfl (by kernel_rfl) (by kernel_rfl) (by kernel_rfl) (fun _ _ _ h => h) (Or.inl ⟨by kernel_rfl, ?hy22⟩) (by assumption) ?_
              case hy22 => (intro w hSw; (try dsimp only at hSw); obtain ⟨tv, tp⟩ := hSw; have t0 := tv.c0; have t2 := tv.c2; go_simp; try with_reducible rfl)
              try simp only [Act.put, List.getElem_toArray, List.getElem_cons_zero, List.getElem_cons_succ, List.setIfInBounds_toArray, List.set_cons_zero, List.set_cons_succ]
              refine wpAnyH_take (i := 23) (v := ?_) rfl (by kernel_rfl) (by kernel_rfl) (by kernel_rfl) (fun _ _ _ h => h) (Or.inl ⟨by kernel_rfl, ?hy23⟩) (by assumption) ?_
              case hy23 => (intro w hSw; (try dsimp only at hSw); obtain ⟨tv, tp⟩ := hSw; have t0 := tv.c0; have t2 := tv.c2; go_simp; try with_reducible rfl)
              try simp only [Act.put, List.getElem_toArray, List.getElem_cons_zero, List.getElem_cons_succ, List.setIfInBounds_toArray, List.set_cons_zero, List.set_cons_succ]
              refine wpAnyH_take (i := 24) (v := ?_) rfl (by kernel_rfl) (by kernel_rfl) (by kernel_rfl) (fun _ _ _ h => h) (Or.inl ⟨by kernel_rfl, ?hy24⟩) (by assumption) ?_
              case hy24 => (intro w hSw; (try dsimp only at hSw); obtain ⟨tv, tp⟩ := hSw; have t0 := tv.c0; have t2 := tv.c2; go_simp; try with_reducible rfl)
              try simp only [Act.put, List.getElem_toArray, List.getElem_cons_zero, List.getElem_cons_succ, List.setIfInBounds_toArray, List.set_cons_zero, List.set_cons_succ]
              refine wpAnyH_take (i := 26) (v := ?_) rfl (by kernel_rfl) (by kernel_rfl) (by kernel_rfl) (fun _ _ _ h => h) (Or.inl ⟨by kernel_rfl, ?hy26⟩) (by assumption) ?_
              case hy26 => (intro w hSw; (try dsimp only at hSw); obtain ⟨tv, tp⟩ := hSw; have t0 := tv.c0; have t2 := tv.c2; go_simp; try with_reducible rfl)
              try simp only [Act.put, List.getElem_toArray, List.getElem_cons_zero, List.getElem_cons_succ, List.setIfInBounds_toArray, List.set_cons_zero, List.set_cons_succ]
              refine wpAnyH_take (i := 27) (v := ?_) rfl (by kernel_rfl) (by kernel_rfl) (by kernel_rfl) (fun _ _ _ h => h) (Or.inl ⟨by kernel_rfl, ?hy27⟩) (by assumption) ?_
              case hy27 => (intro w hSw; (try dsimp only at hSw); obtain ⟨tv, tp⟩ := hSw; have t0 := tv.c0; have t2 := tv.c2; go_simp; try with_reducible rfl)
              try simp only [Act.put, List.getElem_toArray, List.getElem_cons_zero, List.getElem_cons_succ, List.setIfInBounds_toArray, List.set_cons_zero, List.set_cons_succ]
              refine wpAnyH_take (i := 28) (v := ?_) rfl (by kernel_rfl) (by kernel_rfl) (by kernel_rfl) (fun _ _ _ h => h) (Or.inl ⟨by kernel_rfl, ?hy28⟩) (by assumption) ?_
              case hy28 => (intro w hSw; (try dsimp only at hSw); obtain ⟨tv, tp⟩ := hSw; have t0 := tv.c0; have t2 := tv.c2; go_simp; try with_reducible rfl)
              try simp only [Act.put, List.getElem_toArray, List.getElem_cons_zero, List.getElem_cons_succ, List.setIfInBounds_toArray, List.set_cons_zero, List.set_cons_succ]
              refine wpAnyH_take (i := 29) (v := ?_) rfl (by kernel_rfl) (by kernel_rfl) (by kernel_rfl) (fun _ _ _ h => h) (Or.inl ⟨by kernel_rfl, ?hy29⟩) (by assumption) ?_
              case hy29 => (intro w hSw; (try dsimp only at hSw); obtain ⟨tv, tp⟩ := hSw; have t0 := tv.c0; have t2 := tv.c2; go_simp; try with_reducible rfl)
              try simp only [Act.put, List.getElem_toArray, List.getElem_cons_zero, List.getElem_cons_succ, List.setIfInBounds_toArray, List.set_cons_zero, List.set_cons_succ]
              refine wpAnyH_ready (rs := [25]) (by kernel_rfl) (by simp) ?_
              refine AllReadyH.cons rfl (fun K hK => ?_) AllReadyH.nil
              go_simp
              refine hK.out _ _ hHeld (fun _ => ?_)
              clear hK K
              refine wpAnyH_ready (rs := [30]) (by kernel_rfl) (by simp) ?_
              refine AllReadyH.cons rfl (fun K hK => ?_) AllReadyH.nil
              go_simp
              go_wp2_with fail
              refine (CO.out _).mono ?_
              rintro e u230 ⟨rfl, rfl⟩
              refine hK.out _ _ hHeld (fun _ => ?_)
              clear hK K
              refine wpAnyH_take (i := 31) (v := ?_) rfl (by kernel_rfl) (by kernel_rfl) (by kernel_rfl) (fun _ _ _ h => h) (Or.inl ⟨by kernel_rfl, ?hy31⟩) (by assumption) ?_
              case hy31 => (intro w hSw; (try dsimp only at hSw); obtain ⟨tv, tp⟩ := hSw; have t0 := tv.c0; have t2 := tv.c2; go_simp; try with_reducible rfl)
              try simp only [Act.put, List.getElem_toArray, List.getElem_cons_zero, List.getElem_cons_succ, List.setIfInBounds_toArray, List.set_cons_zero, List.set_cons_succ]
              refine wpAnyH_ready (rs := [32]) (by kernel_rfl) (by simp) ?_
              refine AllReadyH.cons rfl (fun K hK => ?_) AllReadyH.nil
              go_simp
              refine hK.out _ _ ⟨hHeld.1.set ne _ _, (World.cell?_setCell_far w3 ⟨b, Z, none⟩ ⟨b', off + F, none⟩ _ (Ne.symm hb'b)).trans cp⟩ (fun _ => ?_)
              clear hK K
              refine wpAnyH_done (by kernel_rfl) ?_ _
              obtain ⟨U, HU⟩ : ∃ U, Hid (U = w3.setCell ⟨b, Z, none⟩ (.int .u32 (ovr z o'))) := ⟨_, rfl⟩
              have hk4 : Kp [b] w3 U := by rw [HU.out]; exact (Kp.refl [b] w3).set _ (by simp) _
              rw [← HU.out] at HP
              have HDr := hid (below_drewN (Below.refl U.heap.size U) 1)
              have HC4 := hid (HP.out.on HDr.out)
              have HR4 := hid ((HR3.out.kept hk4 HNX.out).on HDr.out)
              have HI4 := hid ((HI3.out.kept hk4 HAB.out).on HDr.out)
              have HK4 := hid ((HK3.out.trans hk4 (fun k hk _ => hk)).trans (kp_of_below HDr.out []) (by simp))
              rw [HU.out] at HC4 HR4 HI4 HK4
              clear HU hk4 HP HDr HR3 HI3 HK3 hHeld HNX
              go_wp2
              go_roundw
              case rel => exact ⟨x + 1, by go_num, by omega, HC4.out, HR4.out, HI4.out, HK4.out⟩
              case measure => simp [numOf]; omega
            · have f1 : decide ((F : Int) < m) = false := decide_eq_false (by omega)
              have HG : Hid (gD x0 y0 S pix x y z = z) := by rw [Hid, gD, HKK.out, List.getElem?_eq_none (by omega)]
              rw [dR_same HL.out hgx hz HG.out] at hC3
              have HC4 := hid hC3
              clear hC3 c0 fz hz HG
              go_wp2
              go_roundw
              case rel => exact ⟨x + 1, by go_num, by omega, HC4.out, HR3.out, HI3.out, HK3.out⟩
              case measure => simp [numOf]; omega
        · have e2 : decide ((x : Int) < W) = false := decide_eq_false (by omega)
          obtain rfl : x = W := by omega
          have HC3 := HC2
          rw [dR_row HL.out] at HC3
          clear HC2
          go_wp2
          go_roundw
          case rel => exact ⟨y + 1, by go_num, by omega, HC3.out, HR2.out, HI2.out, HK2.out⟩
          case measure => simp [numOf]; omega
    · have e1 : decide ((y : Int) < H) = false := decide_eq_false (by omega)
      obtain rfl : y = H := by omega
      have HC3 := HC1
      rw [dR_end HL.out] at HC3
      clear HC1
      go_wp2
      go_end0
      exact ⟨rfl, HC3.out, HK1.out⟩
end Go.Proofs.YtlkodgmnhphfcaaGreatDoor

/- Law 0's Rects, Words, SameWords; both canvases. -/
namespace Go.Proofs.YtlkodgmnhphfcaaGreatDoor
open Go Go.RowKit

variable {w w' x y : World}

theorem infoRc : (Tryz.prog.info? 67).map (fun i => (i.zero, i.size, i.bytes)) = some (some (.agg #[.int .i64 0, .int .i64 0, .int .i64 0, .int .i64 0]), 4, 32) := by kernel_rfl
theorem infoRcp : ∃ i, Tryz.prog.info? 67 = some i ∧ i.zero = some (.agg #[.int .i64 0, .int .i64 0, .int .i64 0, .int .i64 0]) ∧ i.size = 4 ∧ i.bytes = 32 := by
  obtain ⟨i, h1, h2⟩ := Option.map_eq_some_iff.1 infoRc
  simp only [Prod.mk.injEq] at h2
  exact ⟨i, h1, h2.1, h2.2.1, h2.2.2⟩
set_option maxRecDepth 100000 in
theorem mrects_any (s : Option Addr) (n c : Nat) (l : List Rc) (hr : RdC w s n c l) (hn : n ≤ 1000) :
    Calls Tryz.prog 14 #[.slice s n c] w (Ret w l) := by
  obtain ⟨i0, hi, hz0, hz1, hz2⟩ := infoRcp
  have HS := hid (hr.src (P := Tryz.prog) (t := 25) (e := 67) Tryz.underlying25)
  have HO := hid (World.ownsRow_nil w w.heap.size 67 4)
  have HL := hid hr.len
  have HK := hid hr.ok
  clear hr
  go_enter Tryz.func14, Tryz.ntmps14
  go_wp2_with (at_builtin; refine wpList_append_own_src _ rfl (.const (.slice none 0 0)) (.tmp 3) 25 25 rfl w.heap.size 67 i0 (.agg #[.int .i64 0, .int .i64 0, .int .i64 0, .int .i64 0]) 4 32 Tryz.underlying25 hi hz0 hz1 hz2 rfl _ _ _ rfl HO.out _ _ _ rfl HS.out (by simp only [maxLen]; omega) (fits32 (by omega)) (Nat.le_refl _) ?_; intro v3 w3 o3 g3; have HO3 := hid o3; have HG3 := hid g3; clear o3 g3)
  go_ret
  have h3 := HO3.out
  rw [Nat.zero_add, List.nil_append] at h3
  obtain ⟨a, c', rfl, hR⟩ := rdc_of_owns h3 HK.out
  refine ⟨a, c', ?_, ?_, (kp_of_grown HG3.out).below (Nat.le_refl _) (fun k hk => by cases hk)⟩
  · rw [HL.out]
    rfl
  · rw [HL.out]
    exact hR

set_option maxRecDepth 100000 in
theorem words_any (s : Option Addr) (n c : Nat) (l : List Int) (hr : RdI .u32 w s n c l) (hn : n ≤ 1000) :
    Calls Tryz.prog 24 #[.slice s n c] w fun e w' => ∃ a c', e = .returned (.slice a n c') ∧ RdI .u32 w' a n c' l ∧ (∀ x, a = some x → w.heap.size ≤ x.block) ∧ Below w.heap.size w w' := by
  obtain ⟨i0, hi, hz0, hz1, hz2⟩ := info32p
  have HS := hid (hr.src32 (P := Tryz.prog) (t := 43) (e := 22) Tryz.underlying43)
  have HO := hid (World.ownsRow_nil w w.heap.size 22 1)
  have HK := hid (fun z hz => col_of hr (z := z) hz)
  clear hr
  go_enter Tryz.func24, Tryz.ntmps24
  go_wp2_with (at_builtin; refine wpList_append_own_src _ rfl (.const (.slice none 0 0)) (.tmp 3) 43 43 rfl w.heap.size 22 i0 (.int .u32 0) 1 4 Tryz.underlying43 hi hz0 hz1 hz2 rfl _ _ _ rfl HO.out _ _ _ rfl HS.out (by simp only [maxLen]; omega) (fits4 (by omega)) (Nat.le_refl _) ?_; intro v3 w3 o3 g3; have HO3 := hid o3; have HG3 := hid g3; clear o3 g3)
  go_ret
  have h3 := HO3.out
  rw [Nat.zero_add, List.nil_append] at h3
  obtain ⟨a, c', rfl, hR, hab⟩ := rdw_of_owns h3 HK.out
  exact ⟨a, c', rfl, hR, fun x hx => (hab x hx).1, (kp_of_grown HG3.out).below (Nat.le_refl _) (fun k hk => by cases hk)⟩

set_option maxRecDepth 100000 in
set_option maxHeartbeats 1000000 in
theorem samew_any (a : Option Addr) (n c : Nat) (a' : Option Addr) (c' : Nat) (l : List Int) (w : World) (hr : RdI .u32 w a n c l) (hr' : RdI .u32 w a' n c' l) (hn : n ≤ 1000000) :
    Calls Tryz.prog 15 #[.slice a n c, .slice a' n c'] w fun e w' => e = .returned (.bool true) ∧ Below w.heap.size w w' := by
  have HR := hid hr
  have HR' := hid hr'
  have n1 : ((n : Int) != n) = false := by simp
  clear hr hr'
  go_enter Tryz.func15, Tryz.ntmps15
  go_wp2
  go_loopw [5] (fun i wr => ∃ j : Nat, j ≤ n ∧ i = .int .i64 j ∧ ∃ r, wr = w.drewN r) (fun i _ => n - (numOf i).toNat)
  case atStart => exact ⟨0, Nat.zero_le _, rfl, 0, rfl⟩
  case round =>
    obtain ⟨j, hj, rfl, r, rfl⟩ := hrel
    by_cases hlt : j < n
    · obtain ⟨g, o, rfl, _, hc⟩ := HR.out.plain (by omega)
      obtain ⟨g', o', rfl, _, hc'⟩ := HR'.out.plain (by omega)
      have hlen := HR.out.len
      have c0 := hc j (by omega)
      have d0 := hc' j (by omega)
      obtain ⟨z, hz⟩ : ∃ z, l.getD j 0 = z := ⟨_, rfl⟩
      rw [hz] at c0 d0
      have n2 : (z != z) = false := by simp
      clear hz hc hc' hlen
      have hlt' : (j : Int) < n := by omega
      go_wp2
      go_quiet (fail)
      go_wp2
      go_roundw
      case rel => exact ⟨j + 1, by omega, by go_num, _, rfl⟩
      case measure => simp [numOf]; omega
    · go_wp2
      go_ret
      exact ⟨rfl, below_drewN (Below.refl _ _) _⟩

variable {p b q d W H : Nat} {L M : List Int}
/-- The program's canvas at p (L), the document's at q (M), both made since w. -/
structure Bo (w x : World) (p b q d W H : Nat) (L M : List Int) : Prop where
  cv : Cv 63 x p b W H L
  dv : Cv 46 x q d W H M
  qb : q ≠ b
  db : d ≠ b
  pd : p ≠ d
  lob : w.heap.size ≤ b
  lod : w.heap.size ≤ d
  bel : Below w.heap.size w x


theorem Bo.on (h : Bo w x p b q d W H L M) (hb : Below x.heap.size x y) : Bo w y p b q d W H L M := ⟨h.cv.on hb, h.dv.on hb, h.qb, h.db, h.pd, h.lob, h.lod, Below.on h.bel hb⟩
/-- The program's is turned. -/
theorem Bo.one (h : Bo w x p b q d W H L M) (hk : Kp [b] x y) {L' : List Int} (hc : Cv 63 y p b W H L') : Bo w y p b q d W H L' M :=
  ⟨hc, h.dv.kept hk (by simpa using h.qb) (by simpa using h.db), h.qb, h.db, h.pd, h.lob, h.lod, bel_kp h.bel hk h.bel.size (fun k hk => by
    simp only [List.mem_cons, List.not_mem_nil, or_false] at hk
    rw [hk]
    exact h.lob)⟩
/-- The document's is turned. -/
theorem Bo.two (h : Bo w x p b q d W H L M) (hk : Kp [d] x y) {M' : List Int} (hc : Cv 46 y q d W H M') : Bo w y p b q d W H L M' :=
  ⟨h.cv.kept hk (by simpa using h.pd) (by simpa using fun e => h.db e.symm), hc, h.qb, h.db, h.pd, h.lob, h.lod, bel_kp h.bel hk h.bel.size (fun k hk => by
    simp only [List.mem_cons, List.not_mem_nil, or_false] at hk
    rw [hk]
    exact h.lod)⟩

/-- A row that was there at w lies apart from what is made since. -/
theorem rdi_low {a : Option Addr} {n c : Nat} {zs : List Int} (h : RdI .u32 w a n c zs) {B : Nat} (hB : w.heap.size ≤ B) : 0 < n → ∀ x, a = some x → x.block ≠ B := fun hn x hx => by
  obtain ⟨b', off, e, hb, _⟩ := h.plain hn
  rw [hx] at e
  cases e
  dsimp only
  omega

theorem Cv.rdi {ty : Nat} (h : Cv ty x p b W H L) : RdI .u32 x (some ⟨b, 0, none⟩) (W * H) (W * H) L :=
  ⟨h.len, Nat.le_refl _, by have := h.small; simp only [maxLen]; omega, (fun e => by cases e), fun z hz j hj => by
    cases hz
    rw [Go.WideShapes.add_plain, Nat.zero_add]
    have hl := h.len
    rw [h.cell (List.getElem?_eq_getElem (by omega)), List.getD, List.getElem?_eq_getElem (by omega)]
    rfl, fun z hz => wf_col (h.col z hz)⟩

end Go.Proofs.YtlkodgmnhphfcaaGreatDoor

/- Slices of structs of m numbers, read and of a call's own; children put and found; what a surface has. No program. -/
namespace Go.Proofs.YtlkodgmnhphfcaaGreatDoor
open Go Go.RowKit

/-- A slice whose first n elements are structs of m numbers, l. -/
structure RdM (m : Nat) (w : World) (a : Option Addr) (n c : Nat) (l : List (List Int)) : Prop where
  len : l.length = n
  le : n ≤ c
  max : c ≤ maxLen
  hnil : a = none → c = 0
  pl : 0 < n → ∃ b off, a = some ⟨b, off, none⟩ ∧ b < w.heap.size ∧ ∀ j y, l[j]? = some y → ∀ i z, y[i]? = some z → w.cell? ⟨b, off + (j * m + i), none⟩ = some (.int .i64 z)
  size : ∀ y ∈ l, y.length = m

theorem RdM.on {m : Nat} {w u : World} {a : Option Addr} {n c : Nat} {l : List (List Int)} (h : RdM m w a n c l) (hb : Below w.heap.size w u) : RdM m u a n c l :=
  ⟨h.len, h.le, h.max, h.hnil, fun hn => by
    obtain ⟨b, off, e, h1, h2⟩ := h.pl hn
    exact ⟨b, off, e, Nat.lt_of_lt_of_le h1 hb.size, fun j y hy i z hz => by rw [hb.cell h1]; exact h2 j y hy i z hz⟩, h.size⟩
theorem RdM.kp {m : Nat} {w u : World} {a : Option Addr} {n c : Nat} {l : List (List Int)} (h : RdM m w a n c l) {X : List Nat} (hb : Kp X w u) (hX : ∀ x, a = some x → 0 < n → x.block ∉ X) : RdM m u a n c l :=
  ⟨h.len, h.le, h.max, h.hnil, fun hn => by
    obtain ⟨b, off, e, h1, h2⟩ := h.pl hn
    exact ⟨b, off, e, Nat.lt_of_lt_of_le h1 hb.size, fun j y hy i z hz => hb.cell (h2 j y hy i z hz) (hX ⟨b, off, none⟩ e hn)⟩, h.size⟩
theorem RdM.nil (m : Nat) (w : World) : RdM m w none 0 0 [] := ⟨rfl, Nat.le_refl _, Nat.zero_le _, fun _ => rfl, fun h => absurd h (by omega), by simp⟩
theorem RdM.small {m : Nat} {w : World} {a : Option Addr} {n c : Nat} {l : List (List Int)} (h : RdM m w a n c l) : n ≤ 9223372036854775807 ∧ c ≤ 9223372036854775807 := by
  have h1 := h.le
  have h2 := h.max
  simp only [maxLen] at h2
  omega
theorem RdM.drewN {m : Nat} {w : World} {a : Option Addr} {n c : Nat} {l : List (List Int)} (h : RdM m w a n c l) (q : Nat) : RdM m (w.drewN q) a n c l := h.on (below_drewN (Below.refl _ _) q)
theorem RdM.at_ {m : Nat} {w : World} {a : Option Addr} {n c : Nat} {l : List (List Int)} (h : RdM m w a n c l) {j : Nat} (hj : j < n) : ∃ b off y, a = some ⟨b, off, none⟩ ∧ b < w.heap.size ∧ l[j]? = some y ∧ y.length = m ∧ ∀ i z, y[i]? = some z → w.cell? ⟨b, off + (j * m + i), none⟩ = some (.int .i64 z) := by
  have hl := h.len
  obtain ⟨b, off, e, h1, h2⟩ := h.pl (by omega)
  have hr : l[j]? = some l[j] := List.getElem?_eq_getElem (by omega)
  exact ⟨b, off, _, e, h1, hr, h.size _ (List.mem_of_getElem? hr), h2 j _ hr⟩
theorem RdM.el1 {w : World} {a : Option Addr} {n c : Nat} {l : List (List Int)} (h : RdM 1 w a n c l) {j : Nat} (hj : j < n) : ∃ b off z0, a = some ⟨b, off, none⟩ ∧ b < w.heap.size ∧ l[j]? = some [z0] ∧ w.cell? ⟨b, off + j, none⟩ = some (.int .i64 z0) := by
  obtain ⟨b, off, y, e, h1, h2, h3, h4⟩ := h.at_ hj
  match y, h3 with
  | [z0], _ => exact ⟨b, off, z0, e, h1, h2, by simpa using h4 0 z0 rfl⟩
theorem RdM.el3 {w : World} {a : Option Addr} {n c : Nat} {l : List (List Int)} (h : RdM 3 w a n c l) {j : Nat} (hj : j < n) : ∃ b off z0 z1 z2, a = some ⟨b, off, none⟩ ∧ b < w.heap.size ∧ l[j]? = some [z0, z1, z2] ∧ w.cell? ⟨b, off + j * 3, none⟩ = some (.int .i64 z0) ∧ w.cell? ⟨b, off + j * 3 + 1, none⟩ = some (.int .i64 z1) ∧ w.cell? ⟨b, off + j * 3 + 2, none⟩ = some (.int .i64 z2) := by
  obtain ⟨b, off, y, e, h1, h2, h3, h4⟩ := h.at_ hj
  match y, h3 with
  | [z0, z1, z2], _ => exact ⟨b, off, z0, z1, z2, e, h1, h2, by simpa using h4 0 z0 rfl, by simpa [Nat.add_assoc] using h4 1 z1 rfl, by simpa [Nat.add_assoc] using h4 2 z2 rfl⟩
theorem RdM.el4 {w : World} {a : Option Addr} {n c : Nat} {l : List (List Int)} (h : RdM 4 w a n c l) {j : Nat} (hj : j < n) : ∃ b off z0 z1 z2 z3, a = some ⟨b, off, none⟩ ∧ b < w.heap.size ∧ l[j]? = some [z0, z1, z2, z3] ∧ w.cell? ⟨b, off + j * 4, none⟩ = some (.int .i64 z0) ∧ w.cell? ⟨b, off + j * 4 + 1, none⟩ = some (.int .i64 z1) ∧ w.cell? ⟨b, off + j * 4 + 2, none⟩ = some (.int .i64 z2) ∧ w.cell? ⟨b, off + j * 4 + 3, none⟩ = some (.int .i64 z3) := by
  obtain ⟨b, off, y, e, h1, h2, h3, h4⟩ := h.at_ hj
  match y, h3 with
  | [z0, z1, z2, z3], _ => exact ⟨b, off, z0, z1, z2, z3, e, h1, h2, by simpa using h4 0 z0 rfl, by simpa [Nat.add_assoc] using h4 1 z1 rfl, by simpa [Nat.add_assoc] using h4 2 z2 rfl, by simpa [Nat.add_assoc] using h4 3 z3 rfl⟩

theorem rdm_of_rdn {m : Nat} (hm : 0 < m) {w : World} {a : Option Addr} {n c : Nat} {l : List (List Int)} (h : RdN m w a n c l) : RdM m w a n c l := by
  refine ⟨h.len, h.le, h.max, h.hnil, fun hn => ?_, h.size⟩
  obtain ⟨b, off, y, e, h1, _⟩ := h.at_ hm 0 hn
  refine ⟨b, off, e, h1, fun j y hy i z hz => ?_⟩
  have := h.cells _ e j y hy i z hz
  rwa [Go.WideShapes.add_plain] at this

/-- Such structs' cells. -/
def mcs (l : List (List Int)) : List Value := l.flatMap fun y => y.map (Value.int .i64)
theorem mcs_nil : mcs [] = [] := rfl
theorem mcs_cons (y : List Int) (l : List (List Int)) : mcs (y :: l) = y.map (Value.int .i64) ++ mcs l := rfl
theorem mcs_append (a b : List (List Int)) : mcs (a ++ b) = mcs a ++ mcs b := by simp [mcs]
theorem mcs_length {m : Nat} {l : List (List Int)} (h : ∀ y ∈ l, y.length = m) : (mcs l).length = l.length * m := by
  induction l with
  | nil => simp [mcs]
  | cons y l ih =>
    rw [mcs_cons, List.length_append, List.length_map, ih fun z hz => h z (by simp [hz]), h y (by simp), List.length_cons, Nat.add_mul, Nat.one_mul, Nat.add_comm]
theorem mcs_one (l : List (List Int)) : ∀ u ∈ mcs l, u.oneCell' = true := by
  intro u hu
  obtain ⟨x, _, hx⟩ := List.mem_flatMap.1 hu
  obtain ⟨z, _, rfl⟩ := List.mem_map.1 hx
  rfl
theorem mcs_at {m : Nat} {l : List (List Int)} (h : ∀ y ∈ l, y.length = m) {j : Nat} {y : List Int} (hj : l[j]? = some y) {i : Nat} {z : Int} (hi : y[i]? = some z) : (mcs l)[j * m + i]? = some (.int .i64 z) := by
  induction l generalizing j with
  | nil => simp at hj
  | cons x l ih =>
    have hx := h x (by simp)
    rw [mcs_cons]
    cases j with
    | zero =>
      simp only [List.getElem?_cons_zero, Option.some.injEq] at hj
      subst hj
      have : i < x.length := (List.getElem?_eq_some_iff.1 hi).1
      rw [Nat.zero_mul, Nat.zero_add, List.getElem?_append_left (by simpa using this), List.getElem?_map, hi]
      rfl
    | succ j =>
      rw [List.getElem?_append_right (by rw [List.length_map, hx, Nat.succ_mul]; omega), List.length_map, hx, show (j + 1) * m + i - m = j * m + i by rw [Nat.succ_mul]; omega]
      exact ih (fun z hz => h z (by simp [hz])) (by simpa using hj)
theorem mcs_inv {m : Nat} {l : List (List Int)} (h : ∀ y ∈ l, y.length = m) {k : Nat} {u : Value} (hu : (mcs l)[k]? = some u) : ∃ j i y z, k = j * m + i ∧ l[j]? = some y ∧ y[i]? = some z ∧ u = .int .i64 z := by
  have hk : k < l.length * m := by
    rw [← mcs_length h]
    exact (List.getElem?_eq_some_iff.1 hu).1
  have hm : 0 < m := by
    rcases Nat.eq_zero_or_pos m with h0 | h0
    · rw [h0] at hk; omega
    · exact h0
  have hj : k / m < l.length := by rw [Nat.div_lt_iff_lt_mul hm]; exact hk
  have e1 : l[k / m]? = some l[k / m] := List.getElem?_eq_getElem hj
  have hl := h _ (List.mem_of_getElem? e1)
  have e2 : l[k / m][k % m]? = some (l[k / m][k % m]'(by rw [hl]; exact Nat.mod_lt _ hm)) := List.getElem?_eq_getElem _
  have e3 : k = k / m * m + k % m := by rw [Nat.mul_comm]; exact (Nat.div_add_mod k m).symm
  refine ⟨k / m, k % m, _, _, e3, e1, e2, ?_⟩
  have := mcs_at h e1 e2
  rw [← e3, hu] at this
  simpa using this

/-- What is appended by 'append(x, l...)'. -/
theorem RdM.src {P : Program} {m : Nat} {w : World} {a : Option Addr} {n c : Nat} {l : List (List Int)} (h : RdM m w a n c l) {t e : TypeId} (ht : P.underlying t = some (.slice e)) : Src P m t (.slice a n c) n (mcs l) w := by
  have h3 := h.len
  cases a with
  | none =>
    have h1 := h.hnil rfl
    have h2 := h.le
    obtain rfl : n = 0 := by omega
    obtain rfl : l = [] := List.eq_nil_of_length_eq_zero h3
    exact Src.ofNil w ht c
  | some x =>
    refine Src.ofSlice w ht x n c (mcs l) (by rw [mcs_length h.size, h3]) (fun j u hu => ?_) (mcs_one l)
    rcases Nat.eq_zero_or_pos n with h0 | h0
    · obtain rfl : l = [] := List.eq_nil_of_length_eq_zero (by omega)
      simp [mcs] at hu
    · obtain ⟨b, off, e1, _, h2⟩ := h.pl h0
      cases e1
      rw [Go.WideShapes.add_plain]
      obtain ⟨p, q, y, z, rfl, hp, hq, rfl⟩ := mcs_inv h.size hu
      exact h2 p y hp q z hq

/-- A row of the call's own: m cells an element, of the type e; the call began in w. -/
structure OwM (m e : Nat) (w u : World) (v : Value) (l : List (List Int)) : Prop where
  own : u.ownsRow w.heap.size e m v l.length (mcs l)
  bel : Below w.heap.size w u
  size : ∀ y ∈ l, y.length = m
theorem OwM.on {m e : Nat} {w u u' : World} {v : Value} {l : List (List Int)} (h : OwM m e w u v l) (hb : Below u.heap.size u u') : OwM m e w u' v l := ⟨ownsRow_below h.own hb, Below.on h.bel hb, h.size⟩
theorem OwM.base {m e : Nat} {w w0 u : World} {v : Value} {l : List (List Int)} (h : OwM m e w u v l) (hb : Below w0.heap.size w0 w) : OwM m e w0 u v l := ⟨ownsRow_low h.own hb.size, Below.on hb h.bel, h.size⟩
theorem OwM.nil (m e : Nat) (w : World) : OwM m e w w (.slice none 0 0) [] := ⟨World.ownsRow_nil _ _ _ _, Below.refl _ _, by simp⟩
theorem OwM.grown {m e : Nat} {w u u' : World} {v v' : Value} {l k : List (List Int)} (h : OwM m e w u v l) (hk : ∀ y ∈ k, y.length = m) (o2 : u'.ownsRow w.heap.size e m v' (l.length + k.length) (mcs l ++ mcs k)) (g : u.grownBy u' v.ownBlock) : OwM m e w u' v' (l ++ k) :=
  ⟨by rw [List.length_append, mcs_append]; exact o2, h.bel.grown g h.bel.size (fun k hk => (h.own.lt k hk).1), fun y hy => by
    rcases List.mem_append.1 hy with hy | hy
    · exact h.size y hy
    · exact hk y hy⟩
theorem OwM.rd {m e : Nat} {w u : World} {v : Value} {l : List (List Int)} (h : OwM m e w u v l) : ∃ a c, v = .slice a l.length c ∧ RdM m u a l.length c l ∧ ∀ x, a = some x → w.heap.size ≤ x.block ∧ x.block < u.heap.size := by
  rcases h.own.2 with ⟨rfl, h0⟩ | ⟨g, cap, cur, rfl, hb, hg, hn, hm, _, _⟩
  · have hl := List.eq_nil_of_length_eq_zero h0
    subst hl
    exact ⟨none, 0, rfl, RdM.nil m u, fun x hx => by cases hx⟩
  · refine ⟨some ⟨g, 0, none⟩, cap, rfl, ⟨rfl, hn, hm, (fun h => by cases h), fun _ => ⟨g, 0, rfl, (h.own.lt g rfl).2, fun j y hy i z hz => ?_⟩, h.size⟩, fun x hx => ?_⟩
    · have hlt : j * m + i < l.length * m := by
        rw [← mcs_length h.size]
        exact (List.getElem?_eq_some_iff.1 (mcs_at h.size hy hz)).1
      rw [Nat.zero_add, h.own.cellAt _ hlt]
      exact mcs_at h.size hy hz
    · cases hx
      exact ⟨hb, (Array.getElem?_eq_some_iff.1 hg).1⟩

/-- A child's ID. -/
def hd (y : List Int) : Int := y.getD 0 0
theorem hd3 (a b c : Int) : hd [a, b, c] = a := rfl
/-- Where the first one of an ID stands. -/
def ixf (k : Int) : List (List Int) → Option Nat
  | [] => none
  | x :: l => if hd x = k then some 0 else (ixf k l).map (· + 1)
def ixI (k : Int) (l : List (List Int)) : Int := match ixf k l with
  | some i => i
  | none => -1
/-- A child put. -/
def put1 : List (List Int) → List Int → List (List Int)
  | [], c => [c]
  | x :: l, c => if hd x = hd c then c :: l else x :: put1 l c
def puts (l m : List (List Int)) : List (List Int) := m.foldl put1 l
/-- A child found. -/
def fnd (k : Int) : List (List Int) → Option (List Int)
  | [] => none
  | x :: l => if hd x = k then some x else fnd k l

theorem drop_at' {α : Type} {l : List α} {j : Nat} {x : α} (h : l[j]? = some x) : l.drop j = x :: l.drop (j + 1) := by
  obtain ⟨hj, rfl⟩ := List.getElem?_eq_some_iff.1 h
  exact List.drop_eq_getElem_cons hj
theorem ixf_drop {k : Int} {l : List (List Int)} : ∀ {j : Nat}, (∀ i y, i < j → l[i]? = some y → hd y ≠ k) → ixf k l = (ixf k (l.drop j)).map (· + j)
  | 0, _ => by simp
  | j + 1, h => by
    rw [ixf_drop (j := j) fun i y hi hy => h i y (by omega) hy]
    cases hd' : l[j]? with
    | none =>
      have : l.length ≤ j := List.getElem?_eq_none_iff.1 hd'
      rw [List.drop_eq_nil_of_le this, List.drop_eq_nil_of_le (by omega)]
      rfl
    | some y =>
      rw [drop_at' hd', ixf, if_neg (h j y (by omega) hd')]
      cases ixf k (l.drop (j + 1)) with
      | none => rfl
      | some i => simp; omega
theorem ixf_none {k : Int} : ∀ {l : List (List Int)}, ixf k l = none → (∀ y ∈ l, hd y ≠ k) ∧ fnd k l = none
  | [], _ => ⟨by simp, rfl⟩
  | x :: l, h => by
    rw [ixf] at h
    split at h
    · cases h
    · rename_i hx
      obtain ⟨h1, h2⟩ := ixf_none (l := l) (by simpa using h)
      refine ⟨fun y hy => ?_, by rw [fnd, if_neg hx, h2]⟩
      rcases List.mem_cons.1 hy with rfl | hy
      · exact hx
      · exact h1 y hy
theorem ixf_some {k : Int} : ∀ {l : List (List Int)} {i : Nat}, ixf k l = some i → i < l.length ∧ fnd k l = l[i]? ∧ ∀ c, hd c = k → put1 l c = l.set i c
  | [], _, h => by cases h
  | x :: l, i, h => by
    rw [ixf] at h
    split at h
    · rename_i hx
      cases h
      refine ⟨by simp, by rw [fnd, if_pos hx]; rfl, fun c hc => ?_⟩
      rw [put1, if_pos (by rw [hx, hc])]
      rfl
    · rename_i hx
      obtain ⟨m, hm, rfl⟩ := Option.map_eq_some_iff.1 h
      obtain ⟨h1, h2, h3⟩ := ixf_some hm
      refine ⟨by simpa using h1, by rw [fnd, if_neg hx, h2]; rfl, fun c hc => ?_⟩
      rw [put1, if_neg (by rw [hc]; exact hx), h3 c hc]
      rfl
theorem put1_none {l : List (List Int)} {c : List Int} (h : ∀ y ∈ l, hd y ≠ hd c) : put1 l c = l ++ [c] := by
  induction l with
  | nil => rfl
  | cons x l ih =>
    rw [put1, if_neg (h x (by simp)), ih fun y hy => h y (by simp [hy])]
    rfl
theorem put1_length {l : List (List Int)} {c : List Int} : l.length ≤ (put1 l c).length ∧ (put1 l c).length ≤ l.length + 1 := by
  induction l with
  | nil => simp [put1]
  | cons x l ih =>
    rw [put1]
    split
    · simp
    · simp only [List.length_cons]; omega
theorem put1_size {m : Nat} {l : List (List Int)} {c : List Int} (h : ∀ y ∈ l, y.length = m) (hc : c.length = m) : ∀ y ∈ put1 l c, y.length = m := by
  induction l with
  | nil => intro y hy; simp [put1] at hy; rw [hy]; exact hc
  | cons x l ih =>
    intro y hy
    rw [put1] at hy
    split at hy
    · rcases List.mem_cons.1 hy with rfl | hy
      · exact hc
      · exact h y (by simp [hy])
    · rcases List.mem_cons.1 hy with rfl | hy
      · exact h y (by simp)
      · exact ih (fun z hz => h z (by simp [hz])) y hy
theorem fnd_put1 (l : List (List Int)) (c : List Int) : fnd (hd c) (put1 l c) = some c := by
  induction l with
  | nil => simp [put1, fnd]
  | cons x l ih =>
    rw [put1]
    split
    · rw [fnd, if_pos rfl]
    · rename_i hx
      rw [fnd, if_neg hx, ih]
theorem fnd_other {k : Int} (l : List (List Int)) (c : List Int) (h : k ≠ hd c) : fnd k (put1 l c) = fnd k l := by
  induction l with
  | nil => simp [put1, fnd, Ne.symm h]
  | cons x l ih =>
    rw [put1]
    split
    · rename_i hx
      rw [fnd, fnd, if_neg (Ne.symm h), if_neg (by rw [hx]; exact Ne.symm h)]
    · rw [fnd, fnd, ih]
theorem puts_nil (l : List (List Int)) : puts l [] = l := rfl
theorem puts_snoc (l m : List (List Int)) (c : List Int) : puts l (m ++ [c]) = put1 (puts l m) c := by simp [puts]
theorem puts_cons (l m : List (List Int)) (c : List Int) : puts l (c :: m) = puts (put1 l c) m := rfl
theorem puts_length (l m : List (List Int)) : (puts l m).length ≤ l.length + m.length := by
  induction m generalizing l with
  | nil => simp [puts]
  | cons c m ih =>
    have h1 := ih (put1 l c)
    have h2 := (put1_length (l := l) (c := c)).2
    rw [puts_cons]
    simp only [List.length_cons]
    omega
theorem puts_size {m : Nat} {l k : List (List Int)} (h : ∀ y ∈ l, y.length = m) (hk : ∀ y ∈ k, y.length = m) : ∀ y ∈ puts l k, y.length = m := by
  induction k generalizing l with
  | nil => exact h
  | cons c k ih => exact ih (put1_size h (hk c (by simp))) (fun y hy => hk y (by simp [hy]))

/-- No child stands twice. -/
def Onc (l : List (List Int)) : Prop := l.Pairwise fun x y => hd x ≠ hd y
theorem put1_put1 (l : List (List Int)) {x c : List Int} (h : hd x = hd c) : put1 (put1 l x) c = put1 l c := by
  induction l with
  | nil => simp [put1, h]
  | cons y l ih =>
    by_cases hy : hd y = hd x
    · rw [put1, if_pos hy, put1, if_pos h, put1, if_pos (by rw [hy, h])]
    · rw [put1, if_neg hy, put1, if_neg (by rw [← h]; exact hy), put1, if_neg (by rw [← h]; exact hy), ih]
/-- It is there already. -/
def Thr (k : Int) (l : List (List Int)) : Prop := ∃ y ∈ l, hd y = k
theorem thr_put1 {k : Int} {l : List (List Int)} (c : List Int) (h : Thr k l) : Thr k (put1 l c) := by
  induction l with
  | nil => obtain ⟨y, hy, _⟩ := h; simp at hy
  | cons x l ih =>
    rw [put1]
    obtain ⟨y, hy, hk⟩ := h
    split
    · rename_i hx
      rcases List.mem_cons.1 hy with rfl | hy
      · exact ⟨c, by simp, by rw [← hx, hk]⟩
      · exact ⟨y, by simp [hy], hk⟩
    · rcases List.mem_cons.1 hy with rfl | hy
      · exact ⟨y, by simp, hk⟩
      · obtain ⟨z, hz, e⟩ := ih ⟨y, hy, hk⟩
        exact ⟨z, by simp [hz], e⟩
theorem thr_self (l : List (List Int)) (c : List Int) : Thr (hd c) (put1 l c) := by
  induction l with
  | nil => exact ⟨c, by simp [put1], rfl⟩
  | cons x l ih =>
    rw [put1]
    split
    · exact ⟨c, by simp, rfl⟩
    · obtain ⟨z, hz, e⟩ := ih
      exact ⟨z, by simp [hz], e⟩
theorem put1_comm {l : List (List Int)} {x c : List Int} (h : hd x ≠ hd c) (ht : Thr (hd c) l) : put1 (put1 l x) c = put1 (put1 l c) x := by
  induction l with
  | nil => obtain ⟨y, hy, _⟩ := ht; simp at hy
  | cons y l ih =>
    by_cases h1 : hd y = hd x
    · have h2 : hd y ≠ hd c := by rw [h1]; exact h
      rw [put1, if_pos h1, put1, if_neg h, put1, if_neg h2, put1, if_pos h1]
    · by_cases h2 : hd y = hd c
      · rw [put1, if_neg h1, put1, if_pos h2, put1, if_pos h2, put1, if_neg (Ne.symm h)]
      · rw [put1, if_neg h1, put1, if_neg h2, put1, if_neg h2, put1, if_neg h1, ih]
        obtain ⟨z, hz, e⟩ := ht
        rcases List.mem_cons.1 hz with rfl | hz
        · exact absurd e h2
        · exact ⟨z, hz, e⟩
theorem put1_puts {a : List (List Int)} : ∀ {l : List (List Int)} {c : List Int}, (∀ y ∈ a, hd y ≠ hd c) → Thr (hd c) l → put1 (puts l a) c = puts (put1 l c) a := by
  induction a with
  | nil => intros; rfl
  | cons x a ih =>
    intro l c h ht
    rw [puts_cons, puts_cons, ih (fun y hy => h y (by simp [hy])) (thr_put1 x ht), put1_comm (h x (by simp)) ht]
theorem puts_put1 {a : List (List Int)} : ∀ {l : List (List Int)} {c : List Int}, Onc a → puts l (put1 a c) = put1 (puts l a) c := by
  induction a with
  | nil => intros; rfl
  | cons x a ih =>
    intro l c h
    obtain ⟨h1, h2⟩ := List.pairwise_cons.1 h
    by_cases hx : hd x = hd c
    · rw [put1, if_pos hx, puts_cons, puts_cons, put1_puts (fun y hy => by rw [← hx]; exact Ne.symm (h1 y hy)) (by rw [← hx]; exact thr_self l x), put1_put1 l hx]
    · rw [put1, if_neg hx, puts_cons, puts_cons, ih h2]
theorem mem_put1 {l : List (List Int)} {c y : List Int} (h : y ∈ put1 l c) : y = c ∨ y ∈ l := by
  induction l with
  | nil => simp [put1] at h; exact .inl h
  | cons x l ih =>
    rw [put1] at h
    split at h
    · rcases List.mem_cons.1 h with rfl | h
      · exact .inl rfl
      · exact .inr (by simp [h])
    · rcases List.mem_cons.1 h with rfl | h
      · exact .inr (by simp)
      · rcases ih h with e | e
        · exact .inl e
        · exact .inr (by simp [e])
theorem onc_put1 {l : List (List Int)} (c : List Int) (h : Onc l) : Onc (put1 l c) := by
  induction l with
  | nil => simp [put1, Onc]
  | cons x l ih =>
    obtain ⟨h1, h2⟩ := List.pairwise_cons.1 h
    rw [put1]
    split
    · rename_i hx
      exact List.pairwise_cons.2 ⟨fun y hy => by rw [← hx]; exact h1 y hy, h2⟩
    · rename_i hx
      refine List.pairwise_cons.2 ⟨fun y hy => ?_, ih h2⟩
      rcases mem_put1 hy with rfl | hy
      · exact hx
      · exact h1 y hy
theorem puts_puts {b : List (List Int)} : ∀ {l a : List (List Int)}, Onc a → puts l (puts a b) = puts (puts l a) b := by
  induction b with
  | nil => intros; rfl
  | cons c b ih =>
    intro l a h
    rw [puts_cons, puts_cons, ih (onc_put1 c h), puts_put1 h]
/-- Each put anew, in a list of itself: it is that list, where none stands twice. -/
theorem puts_self_nil {a : List (List Int)} (h : Onc a) : puts [] a = a := by
  suffices H : ∀ (p a : List (List Int)), Onc (p ++ a) → puts p a = p ++ a from H [] a h
  intro p a
  induction a generalizing p with
  | nil => intro _; simp [puts]
  | cons c a ih =>
    intro h
    have hn : ∀ y ∈ p, hd y ≠ hd c := fun y hy => (List.pairwise_append.1 h).2.2 y hy c (by simp)
    rw [puts_cons, put1_none hn, ih _ (by simpa using h)]
    simp

/-- What a surface has, or is to have. -/
structure Sq where
  at_ : Bool
  buf : Int
  dm : List (List Int)
  fr : List (List Int)
  inp : Bool
  all : Bool
  rg : List (List Int)
  ord : Bool
  od : List (List Int)
  pl : List (List Int)

def mrg (a b : Sq) : Sq := ⟨a.at_ || b.at_, bif b.at_ then b.buf else a.buf, a.dm ++ b.dm, a.fr ++ b.fr, a.inp || b.inp, bif b.inp then b.all else a.all, bif b.inp then b.rg else a.rg, a.ord || b.ord, bif b.ord then b.od else a.od, puts a.pl b.pl⟩
def apl (a b : Sq) : Sq := { mrg a b with at_ := false, inp := false, ord := false, dm := [] }
def non (s : Sq) : Bool := !s.at_ && (!s.inp && (!s.ord && (s.dm.isEmpty && (s.fr.isEmpty && s.pl.isEmpty))))
def few (s : Sq) : Bool := decide (s.dm.length ≤ 60) && (decide (s.fr.length ≤ 60) && (decide (s.rg.length ≤ 60) && (decide (s.od.length ≤ 60) && decide (s.pl.length ≤ 60))))
def sq0 : Sq := ⟨false, 0, [], [], false, false, [], false, [], []⟩
theorem mrg_buf (a b : Sq) (n : Sq) : (mrg (mrg n a) b).buf = (mrg n (mrg a b)).buf := by
  simp only [mrg]
  cases a.at_ <;> cases b.at_ <;> rfl
theorem mrg_od (a b : Sq) (n : Sq) : (mrg (mrg n a) b).od = (mrg n (mrg a b)).od := by
  simp only [mrg]
  cases a.ord <;> cases b.ord <;> rfl
theorem apl_mrg {n a b : Sq} (h : Onc a.pl) : apl n (mrg a b) = apl (apl n a) b := by
  simp only [apl, mrg, List.append_assoc, puts_puts h]
  congr 1
  · cases a.at_ <;> cases b.at_ <;> rfl
  · cases a.inp <;> cases b.inp <;> rfl
  · cases a.inp <;> cases b.inp <;> rfl
  · cases a.ord <;> cases b.ord <;> rfl
theorem apl_sq0 (n : Sq) : apl n sq0 = { n with at_ := false, inp := false, ord := false, dm := [] } := by
  simp [apl, mrg, sq0, puts_nil]
theorem apl_apl_sq0 (n : Sq) : apl (apl n sq0) sq0 = apl n sq0 := by simp [apl_sq0]
end Go.Proofs.YtlkodgmnhphfcaaGreatDoor

/- A block whole; a struct of six numbers read; over any program. -/
namespace Go.Proofs.YtlkodgmnhphfcaaGreatDoor
open Go Go.RowKit

/-- A block whole. -/
structure Bk (u : World) (p T : Nat) (cs : Array Value) : Prop where
  obj : u.heap[p]? = some (.cells cs T (0, 0))
theorem Bk.lt {u : World} {p T : Nat} {cs : Array Value} (h : Bk u p T cs) : p < u.heap.size := (Array.getElem?_eq_some_iff.1 h.obj).1
theorem Bk.cell {u : World} {p T : Nat} {cs : Array Value} (h : Bk u p T cs) (k : Nat) : u.cell? ⟨p, k, none⟩ = cs[k]? := Lib.cell_of_heap h.obj k
theorem Bk.fz {u : World} {p T : Nat} {cs : Array Value} (h : Bk u p T cs) (k : Nat) : u.frozen? ⟨p, k, none⟩ = false := Lib.frozen_of_heap h.obj k
theorem Bk.on {u v : World} {p T : Nat} {cs : Array Value} (h : Bk u p T cs) (hb : Below u.heap.size u v) : Bk v p T cs := ⟨by rw [hb.block p h.lt]; exact h.obj⟩
theorem Bk.kp {u v : World} {p T : Nat} {cs : Array Value} (h : Bk u p T cs) {X : List Nat} (hb : Kp X u v) (hX : p ∉ X) : Bk v p T cs := ⟨hb.var h.obj hX⟩
theorem bk_new (w : World) (cs : Array Value) (T : Nat) : Bk (w.alloc (.cells cs T)) w.heap.size T cs := ⟨heap_alloc_new w _⟩
theorem Bk.set {u : World} {p T : Nat} {cs : Array Value} (h : Bk u p T cs) (k : Nat) (v : Value) : Bk (u.setCell ⟨p, k, none⟩ v) p T (cs.setIfInBounds k v) := ⟨heap_setCell_same _ p k _ _ _ h.obj⟩
theorem Bk.other {u : World} {p q T : Nat} {cs : Array Value} (h : Bk u p T cs) (hn : p ≠ q) (k : Nat) (v : Value) : Bk (u.setCell ⟨q, k, none⟩ v) p T cs := ⟨by rw [heap_setCell_other _ _ _ _ hn]; exact h.obj⟩
theorem bel_new (w : World) (o : Obj) : Below w.heap.size w (w.alloc o) := (Below.refl _ _).alloc (Nat.le_refl _) _
theorem size_new (w : World) (o : Obj) : (w.alloc o).heap.size = w.heap.size + 1 := by simp

theorem results_cell_tmp' {P : Program} {fn : Func} {p u : Tmp} {ty : TypeId} (h : fn.results = #[.cell p ty, .tmp u]) (tmps : Array Value) (w : World) (g : Nat) (t : TypeId) (cs : Array Value) (fr : Nat × Nat) (d : TypeDesc)
    (hp : tmps.getD p undef = .pointer (some ⟨g, 0, none⟩)) (hg : w.heap[g]? = some (.cells cs t fr))
    (hu : P.underlying ty = some d) (hd : (match d with | .struct _ | .array _ _ => true | _ => false) = true) (hi : (P.info? ty).map (·.size) = some cs.size) :
    (results fn tmps).run P w = .ok (.tuple #[.agg cs, tmps.getD u undef]) w := by
  have hp' : tmps[p]?.getD undef = .pointer (some ⟨g, 0, none⟩) := by simpa using hp
  simp [results, h, hp', asAddr, run_loadVar_row w g t ty cs fr d hg hu hd hi]
theorem RdM.el6 {w : World} {a : Option Addr} {n c : Nat} {l : List (List Int)} (h : RdM 6 w a n c l) {j : Nat} (hj : j < n) : ∃ b off z0 z1 z2 z3 z4 z5, a = some ⟨b, off, none⟩ ∧ b < w.heap.size ∧ l[j]? = some [z0, z1, z2, z3, z4, z5] ∧ w.cell? ⟨b, off + j * 6, none⟩ = some (.int .i64 z0) ∧ w.cell? ⟨b, off + j * 6 + 1, none⟩ = some (.int .i64 z1) ∧ w.cell? ⟨b, off + j * 6 + 2, none⟩ = some (.int .i64 z2) ∧ w.cell? ⟨b, off + j * 6 + 3, none⟩ = some (.int .i64 z3) ∧ w.cell? ⟨b, off + j * 6 + 4, none⟩ = some (.int .i64 z4) ∧ w.cell? ⟨b, off + j * 6 + 5, none⟩ = some (.int .i64 z5) := by
  obtain ⟨b, off, y, e, h1, h2, h3, h4⟩ := h.at_ hj
  match y, h3 with
  | [z0, z1, z2, z3, z4, z5], _ => exact ⟨b, off, z0, z1, z2, z3, z4, z5, e, h1, h2, by simpa using h4 0 z0 rfl, by simpa [Nat.add_assoc] using h4 1 z1 rfl, by simpa [Nat.add_assoc] using h4 2 z2 rfl, by simpa [Nat.add_assoc] using h4 3 z3 rfl, by simpa [Nat.add_assoc] using h4 4 z4 rfl, by simpa [Nat.add_assoc] using h4 5 z5 rfl⟩
theorem fits48 {need b : Nat} (h : need ≤ 1000000000) (hb : b ≤ 48) : ∀ old, old < need → Builtin.nextslicecap need old * b ≤ 281474976710656 := fun old ho => by
  have h1 := nextslicecap_near ho
  have h2 : Builtin.nextslicecap need old * b ≤ Builtin.nextslicecap need old * 48 := Nat.mul_le_mul_left _ hb
  omega
/-- A struct's i-th number. -/
def nm5 (i : Nat) (y : List Int) : Int := y.getD i 0

end Go.Proofs.YtlkodgmnhphfcaaGreatDoor

/- Images, and what is painted: nothing of the program but its canvas. -/
namespace Go.Proofs.YtlkodgmnhphfcaaGreatDoor
open Go Go.RowKit

/-- An image: its number, its sides, where its points lie, and these. -/
structure Gv where
  b : Int
  w : Int
  h : Int
  a : Option Addr
  n : Nat
  c : Nat
  l : List Int
def gvv (g : Gv) : Array Value := #[.int .i64 g.b, .int .i64 g.w, .int .i64 g.h, .slice g.a g.n g.c]
/-- What an image says, wherever its points lie. -/
structure Im where
  b : Int
  w : Int
  h : Int
  l : List Int
def gcl (g : Gv) : Im := ⟨g.b, g.w, g.h, g.l⟩
def gz : Gv := ⟨0, 0, 0, none, 0, 0, []⟩
/-- The first one of a number. -/
def gf (k : Int) (gs : List Gv) : Option Gv := gs.find? fun g => g.b == k
def imf (k : Int) (I : List Im) : Option Im := I.find? fun x => x.b == k
theorem gf_imf (k : Int) (gs : List Gv) : imf k (gs.map gcl) = (gf k gs).map gcl := by
  rw [imf, gf, List.find?_map]
  rfl
theorem gf_at {k : Int} {gs : List Gv} {j : Nat} {g : Gv} (hN : ∀ (i : Nat) (x : Gv), i < j → gs[i]? = some x → x.b ≠ k) (hj : gs[j]? = some g) (hg : g.b = k) : gf k gs = some g := by
  induction gs generalizing j with
  | nil => simp at hj
  | cons x gs ih =>
    cases j with
    | zero =>
      simp only [List.getElem?_cons_zero, Option.some.injEq] at hj
      subst hj
      simp [gf, hg]
    | succ j =>
      have hx := hN 0 x (by omega) rfl
      have : (x.b == k) = false := by simpa using hx
      rw [gf, List.find?_cons, this]
      exact ih (j := j) (fun i y hi hy => hN (i + 1) y (by omega) (by simpa using hy)) (by simpa using hj)
theorem gf_none {k : Int} {gs : List Gv} (hN : ∀ (i : Nat) (x : Gv), gs[i]? = some x → x.b ≠ k) : gf k gs = none := by
  rw [gf, List.find?_eq_none]
  intro x hx
  obtain ⟨i, hi⟩ := List.getElem?_of_mem hx
  simpa using hN i x hi
theorem gf_mem {k : Int} {gs : List Gv} {g : Gv} (h : gf k gs = some g) : g ∈ gs := List.mem_of_find?_eq_some h
/-- What Find answers. -/
def fdv (o : Option Gv) : Value := .tuple #[.agg (gvv (o.getD gz)), .bool o.isSome]
/-- Where IndexFunc says that it stands. -/
def IxR (k : Int) (gs : List Gv) (e : Ending) : Prop := (e = .returned (.int .i64 (-1)) ∧ gf k gs = none) ∨ ∃ (j : Nat) (g : Gv), e = .returned (.int .i64 j) ∧ gs[j]? = some g ∧ gf k gs = some g

/-- An image's numbers, and its points, as they are read. -/
structure GOk (w : World) (g : Gv) : Prop where
  kb : I64 g.b
  kw : I64 g.w
  kh : I64 g.h
  px : RdI .u32 w g.a g.n g.c g.l
theorem RdI.kp {k : IntKind} {w w' : World} {X : List Nat} {a : Option Addr} {n c : Nat} {l : List Int} (h : RdI k w a n c l) (hk : Kp X w w') (hX : 0 < n → ∀ x, a = some x → x.block ∉ X) : RdI k w' a n c l :=
  ⟨h.len, h.le, h.max, h.hnil, fun z hz j hj => by
    have h' := h.cells z hz j hj
    obtain ⟨b', off, e, _⟩ := h.plain (by omega)
    rw [hz] at e
    cases e
    rw [Go.WideShapes.add_plain] at h' ⊢
    exact hk.cell h' (by simpa using hX (by omega) _ hz), h.wf⟩
theorem GOk.on {w u : World} {g : Gv} (h : GOk w g) (hb : Below w.heap.size w u) : GOk u g := ⟨h.kb, h.kw, h.kh, h.px.on hb⟩
theorem GOk.kp {w u : World} {g : Gv} (h : GOk w g) {X : List Nat} (hk : Kp X w u) (hX : 0 < g.n → ∀ x, g.a = some x → x.block ∉ X) : GOk u g := ⟨h.kb, h.kw, h.kh, h.px.kp hk hX⟩
theorem gz_ok (w : World) : GOk w gz := ⟨by rw [I64]; decide, by rw [I64]; decide, by rw [I64]; decide, RdI.nil _ w⟩

/-- A slice of images. -/
structure RdG (w : World) (a : Option Addr) (n c : Nat) (gs : List Gv) : Prop where
  len : gs.length = n
  le : n ≤ c
  max : c ≤ maxLen
  hnil : a = none → c = 0
  pl : 0 < n → ∃ b off, a = some ⟨b, off, none⟩ ∧ b < w.heap.size ∧ ∀ j g, gs[j]? = some g → ∀ i v, (gvv g)[i]? = some v → w.cell? ⟨b, off + (j * 4 + i), none⟩ = some v
  ok : ∀ g ∈ gs, GOk w g
theorem RdG.nil (w : World) : RdG w none 0 0 [] := ⟨rfl, Nat.le_refl _, Nat.zero_le _, fun _ => rfl, fun h => absurd h (by omega), by simp⟩
theorem RdG.small {w : World} {a : Option Addr} {n c : Nat} {gs : List Gv} (h : RdG w a n c gs) : n ≤ 9223372036854775807 ∧ c ≤ 9223372036854775807 := by
  have h1 := h.le
  have h2 := h.max
  simp only [maxLen] at h2
  omega
/-- None of it lies in a block of X. -/
structure GAp (X : List Nat) (a : Option Addr) (n : Nat) (gs : List Gv) : Prop where
  row : 0 < n → ∀ x, a = some x → x.block ∉ X
  px : ∀ g ∈ gs, 0 < g.n → ∀ x, g.a = some x → x.block ∉ X
theorem RdG.kp {w u : World} {a : Option Addr} {n c : Nat} {gs : List Gv} (h : RdG w a n c gs) {X : List Nat} (hk : Kp X w u) (hX : GAp X a n gs) : RdG u a n c gs :=
  ⟨h.len, h.le, h.max, h.hnil, fun hn => by
    obtain ⟨b, off, e, h1, h2⟩ := h.pl hn
    exact ⟨b, off, e, Nat.lt_of_lt_of_le h1 hk.size, fun j g hj i v hv => hk.cell (h2 j g hj i v hv) (by simpa using hX.row hn _ e)⟩, fun g hg => (h.ok g hg).kp hk (hX.px g hg)⟩
theorem RdG.on {w u : World} {a : Option Addr} {n c : Nat} {gs : List Gv} (h : RdG w a n c gs) (hb : Below w.heap.size w u) : RdG u a n c gs := h.kp (kp_of_below hb []) ⟨fun _ _ _ => by simp, fun _ _ _ _ _ => by simp⟩
/-- What was there lies apart from what is made since. -/
theorem RdG.low {w : World} {a : Option Addr} {n c : Nat} {gs : List Gv} (h : RdG w a n c gs) {X : List Nat} (hX : ∀ k ∈ X, w.heap.size ≤ k) : GAp X a n gs :=
  ⟨fun hn x hx hm => by
    obtain ⟨b, off, e, h1, _⟩ := h.pl hn
    rw [hx] at e
    cases e
    have := hX _ hm
    dsimp only at this
    omega, fun g hg hn x hx hm => by
    obtain ⟨b, off, e, h1, _⟩ := (h.ok g hg).px.plain hn
    rw [hx] at e
    cases e
    have := hX _ hm
    dsimp only at this
    omega⟩
theorem RdG.el {w : World} {a : Option Addr} {n c : Nat} {gs : List Gv} (h : RdG w a n c gs) {j : Nat} (hj : j < n) : ∃ b off g, a = some ⟨b, off, none⟩ ∧ b < w.heap.size ∧ gs[j]? = some g ∧ GOk w g ∧ w.cell? ⟨b, off + j * 4, none⟩ = some (.int .i64 g.b) ∧ w.cell? ⟨b, off + j * 4 + 1, none⟩ = some (.int .i64 g.w) ∧ w.cell? ⟨b, off + j * 4 + 2, none⟩ = some (.int .i64 g.h) ∧ w.cell? ⟨b, off + j * 4 + 3, none⟩ = some (.slice g.a g.n g.c) := by
  obtain ⟨b, off, e, h1, h2⟩ := h.pl (by omega)
  have hl := h.len
  have hg : gs[j]? = some gs[j] := List.getElem?_eq_getElem (by omega)
  have h4 := h2 j _ hg
  exact ⟨b, off, _, e, h1, hg, h.ok _ (List.mem_of_getElem? hg), by simpa using h4 0 (.int .i64 gs[j].b) rfl, by simpa [Nat.add_assoc] using h4 1 (.int .i64 gs[j].w) rfl, by simpa [Nat.add_assoc] using h4 2 (.int .i64 gs[j].h) rfl, by simpa [Nat.add_assoc] using h4 3 (.slice gs[j].a gs[j].n gs[j].c) rfl⟩

/-! What is painted. -/
/-- A view's image drawn over L, in clip. -/
def ptc (W : Nat) (l : List Rc) (I : List Im) (L : List Int) (y : List Int) : List Int := match imf (nm5 1 y) I with
  | some x => drw W (nm5 2 y) (nm5 3 y) x.w x.h x.l l L
  | none => L
def pnc (W : Nat) (back : Int) (l : List Rc) (V : List (List Int)) (I : List Im) (L : List Int) : List Int := V.foldl (ptc W l I) (fll W back l L)
theorem ptc_length {W : Nat} {l : List Rc} {I : List Im} {L : List Int} {y : List Int} : (ptc W l I L y).length = L.length := by
  unfold ptc
  split
  · exact drw_length
  · rfl
theorem foldl_ptc_length {W : Nat} {l : List Rc} {I : List Im} {V : List (List Int)} {L : List Int} : (V.foldl (ptc W l I) L).length = L.length := by
  induction V generalizing L with
  | nil => rfl
  | cons y V ih => rw [List.foldl_cons, ih, ptc_length]
theorem pnc_length {W : Nat} {back : Int} {l : List Rc} {V : List (List Int)} {I : List Im} {L : List Int} : (pnc W back l V I L).length = L.length := by
  rw [pnc, foldl_ptc_length, fll_length]
/-- One point of a view's image over z. -/
def pto (l : List Rc) (I : List Im) (u v : Int) (z : Int) (y : List Int) : Int := match imf (nm5 1 y) I with
  | some x => if okD (nm5 2 y) (nm5 3 y) x.w x.h && (has ⟨nm5 2 y, nm5 3 y, x.w, x.h⟩ u v && inC l u v) then gD (nm5 2 y) (nm5 3 y) x.w x.l u v z else z
  | none => z
theorem ptc_get {W : Nat} {l : List Rc} {I : List Im} {L : List Int} {y : List Int} {u v : Nat} (hu : u < W) : (ptc W l I L y)[v * W + u]? = L[v * W + u]?.map fun z => pto l I u v z y := by
  unfold ptc pto
  cases imf (nm5 1 y) I with
  | none => simp
  | some x =>
    dsimp only
    cases hok : okD (nm5 2 y) (nm5 3 y) x.w x.h with
    | false =>
      rw [drw, hok]
      simp
    | true =>
      rw [drw_get hok hu]
      simp only [Bool.true_and]
theorem foldl_ptc_get {W : Nat} {l : List Rc} {I : List Im} {V : List (List Int)} {L : List Int} {u v : Nat} (hu : u < W) : (V.foldl (ptc W l I) L)[v * W + u]? = L[v * W + u]?.map fun z => V.foldl (pto l I u v) z := by
  induction V generalizing L with
  | nil => simp
  | cons y V ih =>
    rw [List.foldl_cons, ih, ptc_get hu, Option.map_map]
    rfl
theorem pnc_get {W : Nat} {back : Int} {l : List Rc} {V : List (List Int)} {I : List Im} {L : List Int} {u v : Nat} (hu : u < W) : (pnc W back l V I L)[v * W + u]? = L[v * W + u]?.map fun z => V.foldl (pto l I u v) (if inC l u v then back else z) := by
  rw [pnc, foldl_ptc_get hu, fll_get hu, Option.map_map]
  rfl
/-- Where both clips have all, they make the same. -/
theorem pnc_all {W H : Nat} {back : Int} {l m : List Rc} {V : List (List Int)} {I : List Im} {L M : List Int} (hL : L.length = W * H) (hM : M.length = W * H) (hl : ∀ u v : Nat, u < W → v < H → inC l u v = true) (hm : ∀ u v : Nat, u < W → v < H → inC m u v = true) : pnc W back l V I L = pnc W back m V I M := by
  apply List.ext_getElem?
  intro i
  by_cases hi : i < W * H
  · obtain ⟨u, v, hu, hv, rfl⟩ := place_eq hi
    rw [pnc_get hu, pnc_get hu]
    have e1 : L[v * W + u]? = some L[v * W + u] := List.getElem?_eq_getElem (by omega)
    have e2 : M[v * W + u]? = some M[v * W + u] := List.getElem?_eq_getElem (by omega)
    have e3 : pto l I u v = pto m I u v := by
      funext z y
      unfold pto
      rw [hl u v hu hv, hm u v hu hv]
    rw [e1, e2, Option.map_some, Option.map_some, hl u v hu hv, hm u v hu hv, e3]
    rfl
  · rw [List.getElem?_eq_none (by rw [pnc_length]; omega), List.getElem?_eq_none (by rw [pnc_length]; omega)]
theorem inC_ara {W H u v : Nat} (hW : 1 ≤ W ∧ W ≤ 48) (hH : 1 ≤ H ∧ H ≤ 48) (hu : u < W) (hv : v < H) : inC [ara W H] u v = true := by
  rw [inC_one (ara_ck hW hH), has_ara hW.1 hH.1]
  simp only [Bool.and_eq_true, decide_eq_true_eq]
  omega
/-- The document's rectangle with all. -/
def evr : Rc := ⟨-16777216, -16777216, 33554432, 33554432⟩
theorem evr_ok : evr.Ok := ⟨by rw [evr]; decide, by rw [evr]; decide, by rw [evr]; decide, by rw [evr]; decide⟩
theorem inC_evr {u v : Nat} (hu : u < 48) (hv : v < 48) : inC [evr] u v = true := by
  simp only [inC, List.any_cons, List.any_nil, Bool.or_false]
  rw [show bnd evr = evr by kernel_rfl, has_iff]
  simp only [evr]
  omega
end Go.Proofs.YtlkodgmnhphfcaaGreatDoor
