/- The contract of the program's Fill. -/
import Derived.Test.YtldnggokkkhihaaDoorCanD
namespace Go.Proofs.YtldnggokkkhihaaDoor
open Go Go.RowKit

variable {w w' w0 : World} {p b W H : Nat} {L : List Int} {g : Int → Int → Int → Int} {d d' : Int → Int → Bool}

theorem trn_eq {W H : Nat} {g : Int → Int → Int → Int} {d d' : Int → Int → Bool} {L : List Int} (hL : L.length = W * H) (h : ∀ x y : Nat, x < W → y < H → ∀ z, L[y * W + x]? = some z → (if d x y then g x y z else z) = (if d' x y then g x y z else z)) : trn W g d L = trn W g d' L :=
  trn_ext hL (by rw [trn_length, hL]) fun x y hx hy => by
    rw [trn_get hx]
    cases e : L[y * W + x]? with
    | none => rfl
    | some z => rw [Option.map_some, Option.map_some, h x y hx hy z e]

theorem adds_zero (x y : Int) (u v : Int) : d u v = adds d x 0 y u v := by
  have : (decide (v = y) && decide (x ≤ u) && decide (u < x + 0)) = false := by
    rw [Bool.eq_false_iff]
    simp only [ne_eq, Bool.and_eq_true, decide_eq_true_eq]
    omega
  rw [adds, this, Bool.or_false]
theorem adds_step (x i y : Nat) (u v : Int) : add1 (adds d x i y) ((x + i : Nat) : Int) y u v = adds d x (i + 1 : Nat) y u v := by
  rw [add1, adds, adds, Bool.or_assoc]
  congr 1
  rw [Bool.eq_iff_iff]
  simp only [Bool.or_eq_true, Bool.and_eq_true, decide_eq_true_eq]
  omega

/-- A point of a piece: what it has, and what comes of it when it is turned. -/
theorem St.at_ {x y i n : Nat} (h : St w0 w p b W H g (adds d x i y) L) (hxn : x + n ≤ W) (hy : y < H) (hi : i < n) (hd : ∀ i : Nat, i < n → d ((x + i : Nat) : Int) y = false) :
    ∃ z, L[y * W + (x + i)]? = some z ∧ Col z ∧ w.cell? ⟨b, y * W + x + i, none⟩ = some (.int .u32 z) ∧ w.frozen? ⟨b, y * W + x + i, none⟩ = false ∧
      ∀ t, t = g ((x + i : Nat) : Int) y z → Col t → St w0 (w.setCell ⟨b, y * W + x + i, none⟩ (.int .u32 t)) p b W H g (adds d x (i + 1 : Nat) y) L ∧ Kp [b] w (w.setCell ⟨b, y * W + x + i, none⟩ (.int .u32 t)) := by
  have hx : x + i < W := by omega
  obtain ⟨z, hz, hc⟩ := h.cv.at_ hx hy
  have hd' : adds d x i y ((x + i : Nat) : Int) y = false := by
    rw [adds, hd i hi, Bool.false_or, Bool.eq_false_iff]
    simp only [ne_eq, Bool.and_eq_true, decide_eq_true_eq]
    omega
  have hL : L[y * W + (x + i)]? = some z := by
    rw [trn_get hx, hd'] at hz
    cases e : L[y * W + (x + i)]? with
    | none => rw [e] at hz; cases hz
    | some t => rw [e] at hz; simpa using hz
  have ea : y * W + x + i = y * W + (x + i) := by omega
  rw [ea]
  refine ⟨z, hL, hc, h.cv.cell hz, h.cv.fz _, fun t ht htc => ?_⟩
  have hs := h.cv.set (y * W + (x + i)) htc
  rw [ht, trn_set h.len hx hy hL] at hs
  have hk : Kp [b] w (w.setCell ⟨b, y * W + (x + i), none⟩ (.int .u32 t)) := (Kp.refl [b] w).set _ (by simp) _
  rw [ht] at hk ⊢
  exact ⟨(St.mk hs (h.kp.trans hk (fun k hk _ => hk))).congr (adds_step x i y), hk⟩

set_option maxRecDepth 100000 in
set_option maxHeartbeats 2000000 in
theorem fill1_any (v : Int) (hv : Col v) (q : Nat) (hq : w0.cell? ⟨q, 0, none⟩ = some (.int .u32 v)) (hne : q ≠ b) (P : Int → Int → Bool) : Does 36 #[.pointer (some ⟨q, 0, none⟩)] w0 p b W H (fun _ _ _ => v) P L := by
  intro d u x y n hS hxn hy hn hd _
  have HS := hid hS
  have HQ := hid hq
  have HD := hid hd
  have hW := hS.cv.hW
  have hH := hS.cv.hH
  obtain ⟨o, ho⟩ : ∃ o, y * W + x = o := ⟨_, rfl⟩
  rw [ho]
  clear hS hq hd
  show Calls Tryd.prog 36 #[.int .i64 (x : Nat), .int .i64 (y : Nat), .slice (some ⟨b, o, none⟩) n (W - x), .pointer (some ⟨q, 0, none⟩)] u _
  go_enter Tryd.func36, Tryd.ntmps36
  go_wp2
  go_loopw [10] (fun c wr => ∃ i : Nat, c = .int .i64 i ∧ i ≤ n ∧ St w0 wr p b W H (fun _ _ _ => v) (adds d x i y) L ∧ Kp [b] u wr) (fun c _ => n - (numOf c).toNat)
  case atStart => exact ⟨0, rfl, Nat.zero_le _, HS.out.congr (adds_zero x y), Kp.refl _ _⟩
  case round =>
    obtain ⟨i, rfl, hi, hS, hk⟩ := hrel
    have HS1 := hid hS
    have HK := hid hk
    by_cases hgo : i < n
    · have e1 : decide ((i : Int) < n) = true := decide_eq_true (by omega)
      have e2 : (i : Int) < n := by omega
      obtain ⟨z, _, _, c0, fz, hput⟩ := hS.at_ hxn hy hgo HD.out
      have HP := hid (hput v rfl hv)
      have cq := hS.kp.cell HQ.out (by simpa using hne)
      rw [ho] at c0 fz HP
      clear hS hk hput
      go_wp2
      go_roundw
      case rel => exact ⟨i + 1, by go_num, by omega, HP.out.1, HK.out.trans HP.out.2 (fun k hk _ => hk)⟩
      case measure => simp [numOf]; omega
    · have e1 : decide ((i : Int) < n) = false := decide_eq_false (by omega)
      obtain rfl : i = n := by omega
      clear hS hk
      go_wp2
      go_end0
      exact ⟨rfl, HS1.out, HK.out⟩

theorem ara_ck (hW : 1 ≤ W ∧ W ≤ 48) (hH : 1 ≤ H ∧ H ≤ 48) : Ck (ara W H) := ⟨by simp only [ara]; omega, by simp only [ara]; omega, by simp only [ara]; omega, by simp only [ara]; omega, by simp only [ara]; omega, by simp only [ara]; omega⟩

/-- What Fill makes. -/
def fll (W : Nat) (v : Int) (l : List Rc) (L : List Int) : List Int := trn W (fun _ _ _ => v) (inC l) L

set_option maxRecDepth 100000 in
set_option maxHeartbeats 2000000 in
theorem cfill_any (h : Cv 55 w p b W H L) (v : Int) (hv : Col v) (a : Option Addr) (n c : Nat) (l : List Rc) (hr : RdC w a n c l) (hn : n ≤ 16) :
    Calls Tryd.prog 17 #[.pointer (some ⟨p, 0, none⟩), .int .u32 v, .slice a n c] w fun e w' => e = .returned (.tuple #[]) ∧ Cv 55 w' p b W H (fll W v l L) ∧ Kp [b] w w' := by
  have hlt := h.lt
  have hk := ara_ck h.hW h.hH
  have HB : Hid (Below w.heap.size w (w.alloc (.cells #[.int .u32 v] 35))) := below_new w _
  have HC := hid (h.on HB.out)
  have HR := hid (hr.on HB.out)
  have HQ : Hid ((w.alloc (.cells #[.int .u32 v] 35)).cell? ⟨w.heap.size, 0, none⟩ = some (.int .u32 v)) := by
    rw [Hid, World.cell?_alloc_mark]
    rfl
  have hl := h.len
  have HLE : Hid (trn W (fun _ _ _ => v) (fun _ _ => false) L = L) := trn_none hl (fun _ _ _ _ => rfl)
  have HEQ : Hid (trn W (fun _ _ _ => v) (fun x y => has (cut (ara W H) (ara W H)) x y && inC l x y) L = fll W v l L) := by
    refine trn_congr hl fun x y hx hy => ?_
    rw [cut_self hk, has_ara h.hW.1 h.hH.1]
    have e1 : decide ((0 : Int) ≤ (x : Nat)) = true := decide_eq_true (by omega)
    have e2 : decide (((x : Nat) : Int) < W) = true := decide_eq_true (by omega)
    have e3 : decide ((0 : Int) ≤ (y : Nat)) = true := decide_eq_true (by omega)
    have e4 : decide (((y : Nat) : Int) < H) = true := decide_eq_true (by omega)
    rw [e1, e2, e3, e4]
    rfl
  have hmf : ∀ (fn : Fn) (first cap : Array Value) (w : World), (Instr.makeFunc fn first cap).run Tryd.prog w = .ok (.func fn first cap) w := fun _ _ _ _ => rfl
  clear h hr hl
  go_enter Tryd.func17, Tryd.ntmps17
  go_wp2_with fail
  obtain ⟨U, HU⟩ : ∃ U, Hid (U = w.alloc (.cells #[.int .u32 v] 35)) := ⟨_, rfl⟩
  rw [← HU.out] at HB HC HR HQ
  rw [← HU.out]
  clear HU
  refine (carea_any HC.out).mono ?_
  rintro e u1 ⟨rfl, hb1⟩
  have HB1 := hid (Below.on HB.out hb1)
  have HC1 := hid (HC.out.on hb1)
  have HR1 := hid (HR.out.on hb1)
  have HQ1 : Hid (u1.cell? ⟨w.heap.size, 0, none⟩ = some (.int .u32 v)) := (kp_of_below hb1 []).cell HQ.out (by simp)
  clear hb1 HC HR HQ HB
  go_wp2_with fail
  have hS : St u1 u1 p b W H (fun _ _ _ => v) (fun _ _ => false) L := ⟨by rw [HLE.out]; exact HC1.out, Kp.refl _ _⟩
  refine (each_any 36 #[.pointer (some ⟨w.heap.size, 0, none⟩)] (enters_of Tryd.func36 (by kernel_rfl) rfl) hS (ara W H) (fill1_any v hv w.heap.size HQ1.out (by omega) _) hk.ok (by rw [cut_self hk]; exact may_of (.inr hk)) (by rw [cut_self hk]; exact hk.ok) a n c l HR1.out hn (by rw [cut_self hk]; exact fun _ _ h => h)).mono ?_
  rintro e u2 ⟨rfl, hS2⟩
  have HC2 := hS2.cv
  rw [HEQ.out] at HC2
  have HK : Kp [b] w u2 := (kp_of_below HB1.out [b]).trans hS2.kp (fun k hk _ => hk)
  go_wp2
  go_end0
  exact ⟨rfl, HC2, HK⟩
end Go.Proofs.YtldnggokkkhihaaDoor
