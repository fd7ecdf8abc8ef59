/- The document's canvas: New, In, Fill, Draw; law 0's Rects, Words, SameWords. -/
import Derived.Test.YtldnggokkkhihaaDoorCanH
import Derived.Test.YtldnggokkkhihaaDoorPixD
import Derived.Test.YtldnggokkkhihaaDoorRectH
namespace Go.Proofs.YtldnggokkkhihaaDoor
open Go Go.RowKit

variable {w w' x y : World} {p b W H : Nat} {L : List Int} {g : Int → Int → Int → Int} {D : Int → Int → Bool}

/-- Those of D that are ahead of (x, y), row by row. -/
def dR (D : Int → Int → Bool) (y x : Int) (u v : Int) : Bool := D u v && (decide (v < y) || (decide (v = y) && decide (u < x)))

theorem dR_start (hL : L.length = W * H) : trn W g (dR D 0 0) L = L := trn_none hL fun u v _ _ => by
  rw [dR, Bool.eq_false_iff]
  simp only [ne_eq, Bool.and_eq_true, Bool.or_eq_true, decide_eq_true_eq]
  omega
theorem dR_row (hL : L.length = W * H) (y : Nat) : trn W g (dR D y W) L = trn W g (dR D (y + 1 : Nat) 0) L := trn_congr hL fun u v hu _ => by
  rw [dR, dR]
  congr 1
  rw [Bool.eq_iff_iff]
  simp only [Bool.and_eq_true, Bool.or_eq_true, decide_eq_true_eq]
  omega
theorem dR_end (hL : L.length = W * H) : trn W g (dR D H 0) L = trn W g D L := trn_congr hL fun u v _ hv => by
  rw [dR, decide_eq_true (show ((v : Nat) : Int) < (H : Int) by omega), Bool.true_or, Bool.and_true]
theorem dR_step {x y : Nat} (hd : D x y = true) (u v : Int) : add1 (dR D y x) x y u v = dR D y (x + 1 : Nat) u v := by
  rw [Bool.eq_iff_iff]
  simp only [add1, dR, Bool.and_eq_true, Bool.or_eq_true, decide_eq_true_eq]
  constructor
  · rintro (⟨h1, h2⟩ | ⟨rfl, rfl⟩)
    · exact ⟨h1, by omega⟩
    · exact ⟨hd, by omega⟩
  · rintro ⟨h1, h2⟩
    by_cases h : u = x ∧ v = y
    · exact .inr h
    · exact .inl ⟨h1, by omega⟩
theorem dR_none {x y : Nat} (hd : D x y = false) : dR D y x = dR D y (x + 1 : Nat) := by
  funext u v
  rw [Bool.eq_iff_iff]
  simp only [dR, Bool.and_eq_true, Bool.or_eq_true, decide_eq_true_eq]
  constructor
  · rintro ⟨h1, h2⟩
    exact ⟨h1, by omega⟩
  · rintro ⟨h1, h2⟩
    refine ⟨h1, ?_⟩
    by_cases h : u = x ∧ v = y
    · rw [h.1, h.2, hd] at h1
      cases h1
    · omega
theorem dR_same {x y : Nat} {z : Int} (hL : L.length = W * H) (hx : x < W) (hz : L[y * W + x]? = some z) (hg : g x y z = z) : trn W g (dR D y x) L = trn W g (dR D y (x + 1 : Nat)) L := trn_eq hL fun u v _ _ t ht => by
  by_cases h : u = x ∧ v = y
  · obtain ⟨rfl, rfl⟩ := h
    rw [hz] at ht
    cases ht
    rw [hg, ite_self, ite_self]
  · have : dR D y x u v = dR D y (x + 1 : Nat) u v := by
      rw [dR, dR]
      congr 1
      rw [Bool.eq_iff_iff]
      simp only [Bool.and_eq_true, Bool.or_eq_true, decide_eq_true_eq]
      omega
    rw [this]
/-- A point that is not yet turned. -/
theorem dR_val {x y : Nat} (hx : x < W) : (trn W g (dR D y x) L)[y * W + x]? = L[y * W + x]? := by
  have : dR D y x x y = false := by
    rw [dR, Bool.eq_false_iff]
    simp only [ne_eq, Bool.and_eq_true, Bool.or_eq_true, decide_eq_true_eq]
    omega
  rw [trn_get hx, this]
  cases L[y * W + x]? <;> rfl

/-- A point turned, in the canvas. -/
theorem Cv.put {ty : Nat} {x y : Nat} {z t : Int} (h : Cv ty w p b W H (trn W g (dR D y x) L)) (hx : x < W) (hy : y < H) (hd : D x y = true) (hz : L[y * W + x]? = some z) (ht : t = g x y z) (hc : Col t) : Cv ty (w.setCell ⟨b, y * W + x, none⟩ (.int .u32 t)) p b W H (trn W g (dR D y (x + 1 : Nat)) L) := by
  have hL : L.length = W * H := by
    have := h.len
    rwa [trn_length] at this
  have hs := h.set (y * W + x) hc
  rw [ht, trn_set hL hx hy hz, show add1 (dR D y x) x y = dR D y (x + 1 : Nat) from funext fun u => funext fun v => dR_step hd u v, ← ht] at hs
  exact hs

theorem bnd_okay (q : Rc) : (bnd q).Ok := by
  rcases bnd_cases q with h' | h'
  · rw [bnd_rz h']
    exact rz_ok
  · exact h'.ok

set_option maxRecDepth 100000 in
theorem rnew_any (w : World) (W H : Nat) (hW : 1 ≤ W ∧ W ≤ 48) (hH : 1 ≤ H ∧ H ≤ 48) :
    Calls Tryd.prog 8 #[.int .i64 (W : Nat), .int .i64 (H : Nat)] w (Own 57 w W H (List.replicate (W * H) 0) fun v => v) := by
  obtain ⟨n, hn⟩ : ∃ n, W * H = n := ⟨_, rfl⟩
  have hs : n ≤ 2304 := by rw [← hn]; exact Nat.mul_le_mul hW.2 hH.2
  have m1 : (W : Int) * (H : Int) = (n : Int) := by rw [← hn, Int.natCast_mul]
  have e1 : decide ((W : Int) < 1) = false := decide_eq_false (by omega)
  have e2 : decide ((48 : Int) < (W : Int)) = false := decide_eq_false (by omega)
  have e3 : decide ((H : Int) < 1) = false := decide_eq_false (by omega)
  have e4 : decide ((48 : Int) < (H : Int)) = false := decide_eq_false (by omega)
  obtain ⟨w1, hmk, hb1, ho1⟩ := make32 w n hs
  have hs1 := hb1.size
  have HN := hid hn
  have HB := hid hb1
  have HO := hid ho1
  clear hn hb1 ho1
  go_enter Tryd.func8, Tryd.ntmps8
  go_wp2
  go_ret
  subst HN
  exact ⟨_, _, rfl, HB.out.alloc hs1 _, cv_new 57 HO.out (fun z hz => by rw [List.eq_of_mem_replicate hz, Col]; decide) hW hH, hs1, Nat.le_refl _⟩

set_option maxRecDepth 100000 in
theorem rnew_no (w : World) (m n : Int) (h : (side m && side n) = false) :
    Calls Tryd.prog 8 #[.int .i64 m, .int .i64 n] w fun e w' => e = .returned (.pointer none) ∧ w' = w := by
  go_enter Tryd.func8, Tryd.ntmps8
  by_cases h1 : m < 1
  · have e1 : decide (m < 1) = true := decide_eq_true h1
    clear h
    go_wp2
    go_ret
    exact ⟨rfl, rfl⟩
  have e1 : decide (m < 1) = false := decide_eq_false h1
  by_cases h2 : 48 < m
  · have e2 : decide (48 < m) = true := decide_eq_true h2
    clear h
    go_wp2
    go_ret
    exact ⟨rfl, rfl⟩
  have e2 : decide (48 < m) = false := decide_eq_false h2
  by_cases h3 : n < 1
  · have e3 : decide (n < 1) = true := decide_eq_true h3
    clear h
    go_wp2
    go_ret
    exact ⟨rfl, rfl⟩
  have e3 : decide (n < 1) = false := decide_eq_false h3
  have e4 : decide (48 < n) = true := by
    rw [decide_eq_true_eq]
    simp only [side, Bool.and_eq_false_iff, decide_eq_false_iff_not] at h
    omega
  clear h
  go_wp2
  go_ret
  exact ⟨rfl, rfl⟩

set_option maxRecDepth 100000 in
theorem rin14_any (a : Option Addr) (n c : Nat) (l : List Rc) (w : World) (h : RdC w a n c l) (x y : Int) (hx : I64 x) (hy : I64 y) :
    Calls Tryd.prog 16 #[.slice a n c, .int .i64 x, .int .i64 y] w fun e w' => e = .returned (.bool (inC l x y)) ∧ Below w.heap.size w w' := by
  have hs := h.small
  have HL := hid h.len
  have HR := hid h
  clear h
  go_enter Tryd.func16, Tryd.ntmps16
  go_wp2
  go_loopw [7] (fun t wr => ∃ i : Nat, t = .int .i64 i ∧ i ≤ n ∧ (∀ k r, k < i → l[k]? = some r → has (bnd r) x y = false) ∧ RowKit.Below w.heap.size w wr) (fun t _ => n - (numOf t).toNat)
  case atStart => exact ⟨0, rfl, by omega, fun k r hk => absurd hk (by omega), Below.refl _ _⟩
  case round =>
    obtain ⟨i, rfl, hi, hN, hb⟩ := hrel
    have HN := hid hN
    have HB := hid hb
    clear hN hb
    by_cases hgo : i < n
    · have e1 : decide ((i : Int) < n) = true := decide_eq_true (by omega)
      have e3 : (i : Int) < n := by omega
      obtain ⟨b, off, r, rfl, _, hr, ok, he⟩ := (HR.out.on HB.out).el hgo
      obtain ⟨_, c0, c1, c2, c3⟩ := he
      have HQ := hid hr
      have CB := hid (fun u => rbound_any r ok u)
      have CH := hid (fun u => rhas_any (bnd r) (bnd_okay r) x y hx hy u)
      clear hr
      go_wp2_with fail
      refine (CB.out _).mono ?_
      rintro e w2 ⟨rfl, hb2⟩
      have HB2 := hid (Below.on HB.out hb2)
      clear hb2
      cases hq : has (bnd r) x y
      · rw [hq] at CH
        have HN2 : Hid (∀ k r', k < i + 1 → l[k]? = some r' → has (bnd r') x y = false) := fun k r' hk hr' => by
          rcases Nat.lt_or_ge k i with h | h
          · exact HN.out k r' h hr'
          · obtain rfl : k = i := by omega
            rw [HQ.out] at hr'
            cases hr'
            exact hq
        go_wp2_with fail
        refine (CH.out _).mono ?_
        rintro e w3 ⟨rfl, hb3⟩
        have HB3 := hid (Below.on HB2.out hb3)
        clear hb3
        go_wp2
        go_roundw
        case rel => exact ⟨i + 1, by go_num, by omega, HN2.out, HB3.out⟩
        case measure => simp [numOf]; omega
      · rw [hq] at CH
        have HI : Hid (inC l x y = true) := by
          rw [Hid, inC, List.any_eq_true]
          exact ⟨r, List.mem_of_getElem? HQ.out, hq⟩
        go_wp2_with fail
        refine (CH.out _).mono ?_
        rintro e w3 ⟨rfl, hb3⟩
        have HB3 := hid (Below.on HB2.out hb3)
        clear hb3
        go_wp2
        go_ret
        rw [HI.out]
        exact ⟨rfl, HB3.out⟩
    · have e1 : decide ((i : Int) < n) = false := decide_eq_false (by omega)
      have HI : Hid (inC l x y = false) := by
        rw [Hid, inC, List.any_eq_false]
        intro r hr
        obtain ⟨k, hk⟩ := List.getElem?_of_mem hr
        have hkl := (List.getElem?_eq_some_iff.1 hk).1
        have := HL.out
        rw [HN.out k r (by omega) hk]
        decide
      go_wp2
      go_ret
      rw [HI.out]
      exact ⟨rfl, HB.out⟩

/-- The struct of a canvas, in a world. -/
def Vr (x : World) (p b W n : Nat) (H : Nat) : Prop := x.heap[p]? = some (.cells #[.int .i64 (W : Nat), .int .i64 (H : Nat), .slice (some ⟨b, 0, none⟩) n n] 57 (0, 0))
theorem Vr.c0 {x : World} {n : Nat} (h : Vr x p b W n H) : x.cell? ⟨p, 0, none⟩ = some (.int .i64 (W : Nat)) := by rw [Lib.cell_of_heap h]; rfl
theorem Vr.c2 {x : World} {n : Nat} (h : Vr x p b W n H) : x.cell? ⟨p, 2, none⟩ = some (.slice (some ⟨b, 0, none⟩) n n) := by rw [Lib.cell_of_heap h]; rfl
theorem Vr.set {x : World} {n : Nat} (h : Vr x p b W n H) (ne : p ≠ b) (k : Nat) (v : Value) : Vr (x.setCell ⟨b, k, none⟩ v) p b W n H := by
  unfold Vr at h ⊢
  rw [heap_setCell_other _ _ _ _ ne]
  exact h

set_option maxRecDepth 100000 in
set_option maxHeartbeats 4000000 in
theorem rfill_any (h : Cv 57 w p b W H L) (v : Int) (hv : Col v) (a : Option Addr) (n c : Nat) (l : List Rc) (hr : RdC w a n c l) :
    Calls Tryd.prog 22 #[.pointer (some ⟨p, 0, none⟩), .int .u32 v, .slice a n c] w fun e w' => e = .returned (.tuple #[]) ∧ Cv 57 w' p b W H (fll W v l L) ∧ Kp [b] w w' := by
  have HL := hid h.len
  have HC := hid h
  have HR := hid hr
  have hW := h.hW
  have hH := h.hH
  have ne := h.ne
  obtain ⟨N, hN⟩ : ∃ N, W * H = N := ⟨_, rfl⟩
  have hN1 : N ≤ 2304 := by rw [← hN]; exact Nat.mul_le_mul hW.2 hH.2
  have HNN := hid hN
  have HNO : Hid (∀ (wr : World) M, Cv 57 wr p b W H M → ∀ i z, wr.cell? ⟨b, i, none⟩ ≠ some (.int .i64 z)) := fun wr M hC i z hz => hC.no64 hz
  clear h hr hN
  go_enter Tryd.func22, Tryd.ntmps22
  go_wp2
  go_loopw [6] (fun t wr => ∃ y : Nat, t = .int .i64 y ∧ y ≤ H ∧ Cv 57 wr p b W H (trn W (fun _ _ _ => v) (dR (inC l) y 0) L) ∧ RdC wr a n c l ∧ Kp [b] w wr) (fun t _ => H - (numOf t).toNat)
  case atStart => exact ⟨0, rfl, by omega, by rw [Int.ofNat_zero, dR_start HL.out]; exact HC.out, HR.out, Kp.refl _ _⟩
  case round =>
    obtain ⟨y, rfl, hy, hC1, hR1, hK1⟩ := hrel
    have HC1 := hid hC1
    have HR1 := hid hR1
    have HK1 := hid hK1
    have l0 := hC1.lt.1
    have d1 := hC1.c1
    clear hC1 hR1 hK1 HC HR
    by_cases hgy : y < H
    · have e1 : decide ((y : Int) < H) = true := decide_eq_true (by omega)
      go_wp2
      clear l0 d1
      go_loopw [7] (fun t wr => ∃ x : Nat, t = .int .i64 x ∧ x ≤ W ∧ Cv 57 wr p b W H (trn W (fun _ _ _ => v) (dR (inC l) y x) L) ∧ RdC wr a n c l ∧ Kp [b] w wr) (fun t _ => W - (numOf t).toNat)
      case atStart => exact ⟨0, rfl, by omega, HC1.out, HR1.out, HK1.out⟩
      case round =>
        obtain ⟨x, rfl, hx, hC2, hR2, hK2⟩ := hrel
        have HC2 := hid hC2
        have HR2 := hid hR2
        have HK2 := hid hK2
        have l0 := hC2.lt.1
        have d0 := hC2.c0
        clear hC2 hR2 hK2 HC1 HR1 HK1
        by_cases hgx : x < W
        · have e2 : decide ((x : Int) < W) = true := decide_eq_true (by omega)
          have CI := hid (rin14_any a n c l wr HR2.out x y (by rw [I64]; omega) (by rw [I64]; omega))
          cases hq : inC l x y
          · rw [hq] at CI
            have HE : Hid (trn W (fun _ _ _ => v) (dR (inC l) y x) L = trn W (fun _ _ _ => v) (dR (inC l) y (x + 1 : Nat)) L) := by rw [Hid, dR_none hq]
            rw [HE.out] at HC2
            go_wp2_with fail
            refine CI.out.mono ?_
            rintro e w3 ⟨rfl, hb3⟩
            have HC3 := hid (HC2.out.on hb3)
            have HR3 := hid (HR2.out.on hb3)
            have HK3 := hid (HK2.out.trans (kp_of_below hb3 []) (by simp))
            clear hb3 l0 d0 HC2 HR2 HK2
            go_wp2
            go_roundw
            case rel => exact ⟨x + 1, by go_num, by omega, HC3.out, HR3.out, HK3.out⟩
            case measure => simp [numOf]; omega
          · rw [hq] at CI
            go_wp2_with fail
            refine CI.out.mono ?_
            rintro e w3 ⟨rfl, hb3⟩
            have hC3 := HC2.out.on hb3
            have HR3 := hid (HR2.out.on hb3)
            have HK3 := hid (HK2.out.trans (kp_of_below hb3 []) (by simp))
            obtain ⟨z, hz, _⟩ := hC3.at_ hgx hgy
            have c0 := hC3.cell hz
            have fz := hC3.fz (y * W + x)
            rw [dR_val hgx] at hz
            have HP := hid (hC3.put hgx hgy hq hz rfl hv)
            have HNX := hid (HNO.out _ _ hC3)
            have HV : Hid (Vr w3 p b W N H) := by
              have := hC3.var
              rw [HNN.out] at this
              exact this
            obtain ⟨o, ho⟩ : ∃ o, y * W = o := ⟨_, rfl⟩
            have hon : o + x < N := by rw [← ho, ← HNN.out]; exact place_lt hgx hgy
            have m1 : (y : Int) * (W : Int) = (o : Int) := by rw [← ho, Int.natCast_mul]
            obtain ⟨Z, hZ⟩ : ∃ Z, o + x = Z := ⟨_, rfl⟩
            have k1 : IntKind.i64.wrap (o : Int) = (o : Int) := by
              rw [IntKind.wrap_i64]
              omega
            have k2 : IntKind.i64.wrap ((o : Int) + (x : Int)) = (Z : Int) := by
              rw [IntKind.wrap_i64]
              omega
            have k3 : Z < N := by omega
            have l3 := hC3.lt.1
            rw [ho, hZ] at c0 fz HP
            clear hb3 l0 d0 HC2 HR2 HK2 hC3 hz ho hZ hon
            go_wp2
            refine wp_region_held_drew (S := fun x => Vr x p b W N H) (by kernel_rfl) ?hh (fun hHeld => ?_)
            case hh => exact (HV.out)
            refine wpAnyH_take (i := 0) (v := ?_) rfl (by kernel_rfl) (by kernel_rfl) (by kernel_rfl) (fun _ _ _ h => h) (Or.inl ⟨by kernel_rfl, ?hy0⟩) (by assumption) ?_
            case hy0 => (intro w hSw; (try dsimp only at hSw); have t0 := hSw.c0; have t2 := hSw.c2; go_simp; try with_reducible rfl)
            try simp only [Act.put, List.getElem_toArray, List.getElem_cons_zero, List.setIfInBounds_toArray, List.set_cons_zero, List.set_cons_succ]
            refine wpAnyH_take (i := 1) (v := ?_) rfl (by kernel_rfl) (by kernel_rfl) (by kernel_rfl) (fun _ _ _ h => h) (Or.inl ⟨by kernel_rfl, ?hy1⟩) (by assumption) ?_
            case hy1 => (intro w hSw; (try dsimp only at hSw); have t0 := hSw.c0; have t2 := hSw.c2; go_simp; try with_reducible rfl)
            try simp only [Act.put, List.getElem_toArray, List.getElem_cons_zero, List.getElem_cons_succ, List.setIfInBounds_toArray, List.set_cons_zero, List.set_cons_succ]
            refine wpAnyH_take (i := 2) (v := ?_) rfl (by kernel_rfl) (by kernel_rfl) (by kernel_rfl) (fun _ _ _ h => h) (Or.inl ⟨by kernel_rfl, ?hy2⟩) (by assumption) ?_
            case hy2 => (intro w hSw; (try dsimp only at hSw); have t0 := hSw.c0; have t2 := hSw.c2; go_simp; try with_reducible rfl)
            try simp only [Act.put, List.getElem_toArray, List.getElem_cons_zero, List.getElem_cons_succ, List.setIfInBounds_toArray, List.set_cons_zero, List.set_cons_succ]
            refine wpAnyH_take (i := 3) (v := ?_) rfl (by kernel_rfl) (by kernel_rfl) (by kernel_rfl) (fun _ _ _ h => h) (Or.inl ⟨by kernel_rfl, ?hy3⟩) (by assumption) ?_
            case hy3 => (intro w hSw; (try dsimp only at hSw); have t0 := hSw.c0; have t2 := hSw.c2; go_simp; try with_reducible rfl)
            try simp only [Act.put, List.getElem_toArray, List.getElem_cons_zero, List.getElem_cons_succ, List.setIfInBounds_toArray, List.set_cons_zero, List.set_cons_succ]
            refine wpAnyH_take (i := 4) (v := ?_) rfl (by kernel_rfl) (by kernel_rfl) (by kernel_rfl) (fun _ _ _ h => h) (Or.inl ⟨by kernel_rfl, ?hy4⟩) (by assumption) ?_
            case hy4 => (intro w hSw; (try dsimp only at hSw); have t0 := hSw.c0; have t2 := hSw.c2; go_simp; try with_reducible rfl)
            try simp only [Act.put, List.getElem_toArray, List.getElem_cons_zero, List.getElem_cons_succ, List.setIfInBounds_toArray, List.set_cons_zero, List.set_cons_succ]
            refine wpAnyH_take (i := 5) (v := ?_) rfl (by kernel_rfl) (by kernel_rfl) (by kernel_rfl) (fun _ _ _ h => h) (Or.inl ⟨by kernel_rfl, ?hy5⟩) (by assumption) ?_
            case hy5 => (intro w hSw; (try dsimp only at hSw); have t0 := hSw.c0; have t2 := hSw.c2; go_simp; try with_reducible rfl)
            try simp only [Act.put, List.getElem_toArray, List.getElem_cons_zero, List.getElem_cons_succ, List.setIfInBounds_toArray, List.set_cons_zero, List.set_cons_succ]
            refine wpAnyH_take (i := 6) (v := ?_) rfl (by kernel_rfl) (by kernel_rfl) (by kernel_rfl) (fun _ _ _ h => h) (Or.inl ⟨by kernel_rfl, ?hy6⟩) (by assumption) ?_
            case hy6 => (intro w hSw; (try dsimp only at hSw); have t0 := hSw.c0; have t2 := hSw.c2; go_simp; try with_reducible rfl)
            try simp only [Act.put, List.getElem_toArray, List.getElem_cons_zero, List.getElem_cons_succ, List.setIfInBounds_toArray, List.set_cons_zero, List.set_cons_succ]
            refine wpAnyH_take (i := 7) (v := ?_) rfl (by kernel_rfl) (by kernel_rfl) (by kernel_rfl) (fun _ _ _ h => h) (Or.inl ⟨by kernel_rfl, ?hy7⟩) (by assumption) ?_
            case hy7 => (intro w hSw; (try dsimp only at hSw); have t0 := hSw.c0; have t2 := hSw.c2; go_simp; try with_reducible rfl)
            try simp only [Act.put, List.getElem_toArray, List.getElem_cons_zero, List.getElem_cons_succ, List.setIfInBounds_toArray, List.set_cons_zero, List.set_cons_succ]
            refine wpAnyH_take (i := 8) (v := ?_) rfl (by kernel_rfl) (by kernel_rfl) (by kernel_rfl) (fun _ _ _ h => h) (Or.inl ⟨by kernel_rfl, ?hy8⟩) (by assumption) ?_
            case hy8 => (intro w hSw; (try dsimp only at hSw); have t0 := hSw.c0; have t2 := hSw.c2; go_simp; try with_reducible rfl)
            try simp only [Act.put, List.getElem_toArray, List.getElem_cons_zero, List.getElem_cons_succ, List.setIfInBounds_toArray, List.set_cons_zero, List.set_cons_succ]
            refine wpAnyH_take (i := 9) (v := ?_) rfl (by kernel_rfl) (by kernel_rfl) (by kernel_rfl) (fun _ _ _ h => h) (Or.inl ⟨by kernel_rfl, ?hy9⟩) (by assumption) ?_
            case hy9 => (intro w hSw; (try dsimp only at hSw); have t0 := hSw.c0; have t2 := hSw.c2; go_simp; try with_reducible rfl)
            try simp only [Act.put, List.getElem_toArray, List.getElem_cons_zero, List.getElem_cons_succ, List.setIfInBounds_toArray, List.set_cons_zero, List.set_cons_succ]
            refine wpAnyH_take (i := 10) (v := ?_) rfl (by kernel_rfl) (by kernel_rfl) (by kernel_rfl) (fun _ _ _ h => h) (Or.inl ⟨by kernel_rfl, ?hy10⟩) (by assumption) ?_
            case hy10 => (intro w hSw; (try dsimp only at hSw); have t0 := hSw.c0; have t2 := hSw.c2; go_simp; try with_reducible rfl)
            try simp only [Act.put, List.getElem_toArray, List.getElem_cons_zero, List.getElem_cons_succ, List.setIfInBounds_toArray, List.set_cons_zero, List.set_cons_succ]
            refine wpAnyH_take (i := 11) (v := ?_) rfl (by kernel_rfl) (by kernel_rfl) (by kernel_rfl) (fun _ _ _ h => h) (Or.inl ⟨by kernel_rfl, ?hy11⟩) (by assumption) ?_
            case hy11 => (intro w hSw; (try dsimp only at hSw); have t0 := hSw.c0; have t2 := hSw.c2; go_simp; try with_reducible rfl)
            try simp only [Act.put, List.getElem_toArray, List.getElem_cons_zero, List.getElem_cons_succ, List.setIfInBounds_toArray, List.set_cons_zero, List.set_cons_succ]
            refine wpAnyH_take (i := 12) (v := ?_) rfl (by kernel_rfl) (by kernel_rfl) (by kernel_rfl) (fun _ _ _ h => h) (Or.inl ⟨by kernel_rfl, ?hy12⟩) (by assumption) ?_
            case hy12 => (intro w hSw; (try dsimp only at hSw); have t0 := hSw.c0; have t2 := hSw.c2; go_simp; try with_reducible rfl)
            try simp only [Act.put, List.getElem_toArray, List.getElem_cons_zero, List.getElem_cons_succ, List.setIfInBounds_toArray, List.set_cons_zero, List.set_cons_succ]
            refine wpAnyH_take (i := 13) (v := ?_) rfl (by kernel_rfl) (by kernel_rfl) (by kernel_rfl) (fun _ _ _ h => h) (Or.inl ⟨by kernel_rfl, ?hy13⟩) (by assumption) ?_
            case hy13 => (intro w hSw; (try dsimp only at hSw); have t0 := hSw.c0; have t2 := hSw.c2; go_simp; try with_reducible rfl)
            try simp only [Act.put, List.getElem_toArray, List.getElem_cons_zero, List.getElem_cons_succ, List.setIfInBounds_toArray, List.set_cons_zero, List.set_cons_succ]
            refine wpAnyH_ready (rs := [14]) (by kernel_rfl) (by simp) ?_
            refine AllReadyH.cons rfl (fun K hK => ?_) AllReadyH.nil
            go_simp
            refine hK.out _ _ (hHeld.set ne _ _) (fun _ => ?_)
            clear hK K
            refine wpAnyH_done (by kernel_rfl) ?_ _
            obtain ⟨U, HU⟩ : ∃ U, Hid (U = w3.setCell ⟨b, Z, none⟩ (.int .u32 v)) := ⟨_, rfl⟩
            have hk4 : Kp [b] w3 U := by rw [HU.out]; exact (Kp.refl [b] w3).set _ (by simp) _
            rw [← HU.out] at HP
            have HD := hid (below_drewN (Below.refl U.heap.size U) 1)
            have HC4 := hid (HP.out.on HD.out)
            have HR4 := hid ((HR3.out.kept hk4 HNX.out).on HD.out)
            have HK4 := hid ((HK3.out.trans hk4 (fun k hk _ => hk)).trans (kp_of_below HD.out []) (by simp))
            rw [HU.out] at HC4 HR4 HK4
            clear HU hk4 HP HD HR3 HK3 hHeld HNX
            go_wp2
            go_roundw
            case rel => exact ⟨x + 1, by go_num, by omega, HC4.out, HR4.out, HK4.out⟩
            case measure => simp [numOf]; omega
        · have e2 : decide ((x : Int) < W) = false := decide_eq_false (by omega)
          obtain rfl : x = W := by omega
          have HC3 := HC2
          rw [dR_row HL.out] at HC3
          clear HC2
          go_wp2
          go_roundw
          case rel => exact ⟨y + 1, by go_num, by omega, HC3.out, HR2.out, HK2.out⟩
          case measure => simp [numOf]; omega
    · have e1 : decide ((y : Int) < H) = false := decide_eq_false (by omega)
      obtain rfl : y = H := by omega
      have HC3 := HC1
      rw [dR_end HL.out] at HC3
      clear HC1
      go_wp2
      go_end0
      exact ⟨rfl, HC3.out, HK1.out⟩
end Go.Proofs.YtldnggokkkhihaaDoor
