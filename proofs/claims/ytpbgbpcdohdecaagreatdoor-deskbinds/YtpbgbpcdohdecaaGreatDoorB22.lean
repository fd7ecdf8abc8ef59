/- Lemmas that the proof leans on. -/
import Derived.Test.YtpbgbpcdohdecaaGreatDoorB20
import Derived.Test.YtpbgbpcdohdecaaGreatDoorB21
namespace Go.Proofs.YtpbgbpcdohdecaaGreatDoor
open Go Go.RowKit
set_option maxRecDepth 100000
set_option maxHeartbeats 4000000
section
variable {w w' w0 : World} {p b W H : Nat} {L : List Int}
def kk (x y s u v : Int) : Nat := ((v - y) * s + u - x).toNat
def gD (x y s : Int) (pix : List Int) (u v z : Int) : Int := match pix[kk x y s u v]? with
 | some o => ovr z o
 | none => z
theorem col_of {k : List Int} {w : World} {a : Option Addr} {n c : Nat} (h : RdI .u32 w a n c k) {z : Int} (hz : z ∈ k) : Col z := by
 have := h.wf z hz
 simp [Lit.wf, IntKind.min, IntKind.max, IntKind.signed, IntKind.bits] at this
 unfold Col
 omega
theorem numbers_any (a : Option Addr) (n c : Nat) (pix : List Int) (w : World) (hr : RdI .u32 w a n c pix) (hs : n ≤ 20000) (F m : Nat) (hF : F ≤ 9000000000000000000) (hm : m ≤ 48) :
  Calls Tryz.prog 69 #[.slice a n c, .int .i64 (F : Nat), .int .i64 (m : Nat)] w fun e w' => (∃ a', e = .returned (.slice a' (min (F + m) n - min F n) (min (F + m) n - min F n)) ∧ (0 < min (F + m) n - min F n → ∃ b' off, a = some ⟨b', off, none⟩ ∧ a' = some ⟨b', off + F, none⟩)) ∧ w' = w := by
 have hle := hr.le
 obtain ⟨f, hf⟩ : ∃ f, min F n = f := ⟨_, rfl⟩
 obtain ⟨t, ht⟩ : ∃ t, min (F + m) n = t := ⟨_, rfl⟩
 have e1 : min (F : Int) (n : Int) = (f : Int) := by omega
 have e2 : min ((F : Int) + (m : Int)) (n : Int) = (t : Int) := by omega
 have e3 : f ≤ t := by omega
 have e4 : t ≤ c := by omega
 have e5 : t ≤ n := by omega
 have HA : Hid (0 < t - f → ∃ b' off, a = some ⟨b', off, none⟩ ∧ f = F) := fun h => by
  obtain ⟨b', off, e, _⟩ := hr.plain (by omega)
  exact ⟨b', off, e, by omega⟩
 have HF := hid hf
 have HT := hid ht
 have hnil := hr.hnil
 rw [hf, ht]
 clear hr hf ht
 go_enter Tryz.func69, Tryz.ntmps69
 by_cases h0 : t = f
 ·subst h0
  rw [Nat.sub_self]
  go_wp2
  go_ret
  exact ⟨⟨a, rfl, fun h => absurd h (by omega)⟩, rfl⟩
 ·obtain ⟨b', off, rfl, hfF⟩ := HA.out (by omega)
  subst hfF
  go_wp2
  go_ret
  exact ⟨⟨_, rfl, fun _ => ⟨b', off, by simp, by simp⟩⟩, rfl⟩
theorem kk_eq {x y s : Int} {u v F i : Nat} (hF : ((v : Int) - y) * s + u - x = (F : Int)) : kk x y s ((u + i : Nat) : Int) v = F + i := by
 have : ((v : Int) - y) * s + ((u + i : Nat) : Int) - x = ((F + i : Nat) : Int) := by omega
 rw [kk, this]
 omega
theorem St_CanD.more {w0 w : World} {g : Int → Int → Int → Int} {d : Int → Int → Bool} {x y c n : Nat} (h : St_CanD w0 w p b W H g (adds d x c y) L) (hc : c ≤ n) (hg : ∀ i : Nat, c ≤ i → i < n → ∀ z, g ((x + i : Nat) : Int) y z = z) : St_CanD w0 w p b W H g (adds d x n y) L := by
 have e : trn W g (adds d x c y) L = trn W g (adds d x n y) L := trn_eq h.len fun u v _ _ z _ => by
  by_cases hv : (v : Int) = y ∧ (x + c : Nat) ≤ (u : Int) ∧ (u : Int) < (x + n : Nat)
  ·obtain ⟨i, rfl⟩ : ∃ i, u = x + i := ⟨u - x, by omega⟩
   obtain rfl : v = y := by omega
   rw [hg i (by omega) (by omega) z, ite_self, ite_self]
  ·have : adds d x c y u v = adds d x n y u v := by
    rw [adds, adds]
    congr 1
    rw [Bool.eq_iff_iff]
    simp only [Bool.and_eq_true, decide_eq_true_eq]
    omega
   rw [this]
 exact ⟨by rw [← e]; exact h.cv, h.kp⟩
theorem draw1_any (x0 y0 s : Int) (hx0 : -16777216 ≤ x0 ∧ x0 ≤ 16777216) (hy0 : -16777216 ≤ y0 ∧ y0 ≤ 16777216) (hs0 : 1 ≤ s ∧ s ≤ 16777216) (a : Option Addr) (m c : Nat) (pix : List Int) (hr : RdI .u32 w0 a m c pix) (hm : m ≤ 20000) (hab : 0 < m → ∀ x, a = some x → x.block ≠ b)
  (q1 q2 q3 q4 : Nat) (h1 : w0.cell? ⟨q1, 0, none⟩ = some (.slice a m c)) (h2 : w0.cell? ⟨q2, 0, none⟩ = some (.int .i64 y0)) (h3 : w0.cell? ⟨q3, 0, none⟩ = some (.int .i64 s)) (h4 : w0.cell? ⟨q4, 0, none⟩ = some (.int .i64 x0))
  (n1 : q1 ≠ b) (n2 : q2 ≠ b) (n3 : q3 ≠ b) (n4 : q4 ≠ b) (P : Int → Int → Bool) (hP : ∀ u v, P u v = true → x0 ≤ u ∧ u < x0 + s ∧ y0 ≤ v) :
  Does 68 #[.pointer (some ⟨q1, 0, none⟩), .pointer (some ⟨q2, 0, none⟩), .pointer (some ⟨q3, 0, none⟩), .pointer (some ⟨q4, 0, none⟩)] w0 p b W H (gD x0 y0 s pix) P L := by
 intro d u x y n hS hxn hy hn hd hp
 have HS := hid hS
 have HD := hid hd
 have hW := hS.cv.hW
 have hH := hS.cv.hH
 have g0 := hP _ _ (hp 0 (by omega))
 have hlen := hr.len
 have c1 := hS.kp.cell h1 (by simpa using n1)
 have c2 := hS.kp.cell h2 (by simpa using n2)
 have c3 := hS.kp.cell h3 (by simpa using n3)
 have c4 := hS.kp.cell h4 (by simpa using n4)
 obtain ⟨o, ho⟩ : ∃ o, y * W + x = o := ⟨_, rfl⟩
 obtain ⟨dy, hdy⟩ : ∃ dy : Nat, (y : Int) - y0 = dy := ⟨((y : Int) - y0).toNat, by omega⟩
 obtain ⟨S, rfl⟩ : ∃ S : Nat, s = S := ⟨s.toNat, by omega⟩
 obtain ⟨M, hM⟩ : ∃ M, dy * S = M := ⟨_, rfl⟩
 have hMb : M ≤ 16777300 * 16777216 := by rw [← hM]; exact Nat.mul_le_mul (by omega) (by omega)
 have m1 : ((y : Int) - y0) * (S : Int) = (M : Int) := by rw [hdy, ← hM, Int.natCast_mul]
 obtain ⟨F, hF⟩ : ∃ F : Nat, (M : Int) + x - x0 = F := ⟨((M : Int) + x - x0).toNat, by omega⟩
 have hFb : F ≤ 9000000000000000000 := by omega
 have HKK : Hid (∀ i : Nat, kk x0 y0 S ((x + i : Nat) : Int) y = F + i) := fun i => kk_eq (by rw [m1]; exact hF)
 have HRX : Hid (∀ wr, Kp [b] w0 wr → RdI .u32 wr a m c pix) := fun wr hk => ⟨hr.len, hr.le, hr.max, hr.hnil, fun z hz j hj => by
  have h' := hr.cells z hz j hj
  obtain ⟨b', off, e, _⟩ := hr.plain (by omega)
  rw [hz] at e
  cases e
  rw [Go.WideShapes.add_plain] at h' ⊢
  exact hk.cell h' (by simpa using hab (by omega) _ hz), hr.wf⟩
 have HRC := hid (fun z hz => col_of hr (z := z) hz)
 have CN := hid (numbers_any a m c pix u (HRX.out u hS.kp) hm F n hFb (by omega))
 obtain ⟨k, hk⟩ : ∃ k, min (F + n) m - min F m = k := ⟨_, rfl⟩
 rw [hk] at CN
 have hkn : k ≤ n := by omega
 have hkm : ∀ i, i < k → F + i < m := fun i hi => by omega
 have HKM := hid hkm
 have HKN : Hid (∀ i : Nat, k ≤ i → i < n → pix[F + i]? = none) := fun i h1 h2 => List.getElem?_eq_none (by omega)
 rw [ho]
 clear hS hd hp hP h1 h2 h3 h4 hr hkm hdy hM
 show Calls Tryz.prog 68 #[.int .i64 (x : Nat), .int .i64 (y : Nat), .slice (some ⟨b, o, none⟩) n (W - x), .pointer (some ⟨q1, 0, none⟩), .pointer (some ⟨q2, 0, none⟩), .pointer (some ⟨q3, 0, none⟩), .pointer (some ⟨q4, 0, none⟩)] u _
 go_enter Tryz.func68, Tryz.ntmps68
 go_wp2_with fail
 refine CN.out.mono ?_
 rintro e w1 ⟨⟨a', rfl, ha'⟩, rfl⟩
 have HA' := hid ha'
 clear ha' CN
 go_wp2
 go_loopw [26] (fun cc wr => ∃ i : Nat, cc = .int .i64 i ∧ i ≤ k ∧ St_CanD w0 wr p b W H (gD x0 y0 S pix) (adds d x i y) L ∧ Kp [b] w1 wr) (fun cc _ => k - (numOf cc).toNat)
 case atStart => exact ⟨0, rfl, Nat.zero_le _, HS.out.congr (adds_zero x y), Kp.refl _ _⟩
 case round =>
  obtain ⟨i, rfl, hi, hS, hkp⟩ := hrel
  have HS1 := hid hS
  have HK := hid hkp
  by_cases hgo : i < k
  ·have e1 : decide ((i : Int) < k) = true := decide_eq_true (by omega)
   have e2 : (i : Int) < k := by omega
   have e3 : (i : Int) < n := by omega
   obtain ⟨b', off, rfl, rfl⟩ := HA'.out (by omega)
   have hFi := HKM.out i hgo
   obtain ⟨v, hv⟩ : ∃ v, pix[F + i]? = some v := ⟨_, List.getElem?_eq_getElem (by omega)⟩
   have cv := (HRX.out wr hS.kp).cells _ rfl (F + i) hFi
   rw [Go.WideShapes.add_plain, List.getD, hv] at cv
   dsimp only [Option.getD] at cv
   rw [← Nat.add_assoc] at cv
   have hvc : Col v := HRC.out v (List.mem_of_getElem? hv)
   obtain ⟨z, hz, hzc, c0, fz, _⟩ := hS.at_ (n := n) hxn hy (by omega) HD.out
   rw [ho] at c0 fz
   have HG : Hid (ovr z v = gD x0 y0 S pix ((x + i : Nat) : Int) y z) := by
    rw [Hid, gD, HKK.out i, hv]
   have CO := hid (fun W => over_any z v hzc hvc W)
   have HZ := hid hz
   clear hS hkp hv hz
   go_wp2_with fail
   refine (CO.out _).mono ?_
   rintro e w2 ⟨rfl, hb2⟩
   have hS2 := HS1.out.on hb2
   have HK2 := hid (HK.out.trans (kp_of_below hb2 []) (by simp))
   obtain ⟨z', hz', hzc', c0', fz', hput⟩ := hS2.at_ (n := n) hxn hy (by omega) HD.out
   obtain rfl : z' = z := by
    rw [HZ.out] at hz'
    cases hz'
    rfl
   have HP := hid (hput _ HG.out (ovr_bd _ _))
   rw [ho] at c0' fz' HP
   clear hS2 hput hb2 c0 fz cv HS1 HK
   go_wp2
   go_roundw
   case rel => exact ⟨i + 1, by go_num, by omega, HP.out.1, HK2.out.trans HP.out.2 (fun k hk _ => hk)⟩
   case measure => simp [numOf]; omega
  ·have e1 : decide ((i : Int) < k) = false := decide_eq_false (by omega)
   obtain rfl : i = k := by omega
   have HF : Hid (St_CanD w0 wr p b W H (gD x0 y0 S pix) (adds d x n y) L) := hS.more hkn fun j h1 h2 z => by
    rw [gD, HKK.out j, HKN.out j h1 h2]
   clear hS hkp
   go_wp2
   go_end0
   exact ⟨rfl, HF.out, HK.out⟩
theorem tooFar_any (n : Int) (w : World) : Calls Tryz.prog 67 #[.int .i64 n] w fun e w' => e = .returned (.bool (!(decide (-16777216 ≤ n) && decide (n ≤ 16777216)))) ∧ w' = w := by
 go_enter Tryz.func67, Tryz.ntmps67
 go_wp2_with fail
 refine (between_any (-16777216) n 16777216 _).mono ?_
 rintro e w1 ⟨rfl, rfl⟩
 go_wp2
 go_ret
 exact ⟨ret_bool_RectA (Bool.not_and _ _).symm, rfl⟩
def okD (x y s t : Int) : Bool := (decide (1 ≤ s) && decide (s ≤ 16777216)) && (decide (1 ≤ t) && decide (t ≤ 16777216)) && (decide (-16777216 ≤ x) && decide (x ≤ 16777216)) && (decide (-16777216 ≤ y) && decide (y ≤ 16777216))
def drw (W : Nat) (x y s t : Int) (pix : List Int) (l : List Rc) (L : List Int) : List Int :=
 if okD x y s t then trn W (gD x y s pix) (fun u v => has ⟨x, y, s, t⟩ u v && inC l u v) L else L
theorem cut_area {x y s t : Int} (hW : 1 ≤ W ∧ W ≤ 48) (hH : 1 ≤ H ∧ H ≤ 48) (h : okD x y s t = true) : may (cut (ara W H) ⟨x, y, s, t⟩) = true ∧ (cut (ara W H) ⟨x, y, s, t⟩).Ok ∧ ∀ u v, has (cut (ara W H) ⟨x, y, s, t⟩) u v = (has (ara W H) u v && has ⟨x, y, s, t⟩ u v) := by
 simp only [okD, Bool.and_eq_true, decide_eq_true_eq] at h
 obtain ⟨⟨⟨⟨s1, s2⟩, t1, t2⟩, x1, x2⟩, y1, y2⟩ := h
 have hk := ara_ck hW hH
 have he : emp ⟨x, y, s, t⟩ = false := by
  rw [emp, Bool.or_eq_false_iff, decide_eq_false_iff_not, decide_eq_false_iff_not]
  dsimp only
  omega
 have e1 : en x s = x + s := by unfold en; rw [if_pos (by omega)]
 have e2 : en y t = y + t := by unfold en; rw [if_pos (by omega)]
 have hc : cut (ara W H) ⟨x, y, s, t⟩ = oft (max 0 x) (max 0 y) (min W (x + s)) (min H (y + t)) := by
  rw [cut_full hk.emp he, hk.enx, hk.eny, e1, e2]
  simp only [ara, Int.zero_add]
 rw [hc]
 by_cases h1 : min (W : Int) (x + s) ≤ max 0 x ∨ min (H : Int) (y + t) ≤ max 0 y
 ·rw [oft, if_pos h1]
  refine ⟨may_rz, rz_ok, fun u v => ?_⟩
  rw [has_rz]
  symm
  rw [Bool.eq_false_iff]
  simp only [ne_eq, Bool.and_eq_true, has_iff, ara]
  omega
 ·rw [oft, if_neg h1]
  have k : Ck ⟨max 0 x, max 0 y, min (W : Int) (x + s) - max 0 x, min (H : Int) (y + t) - max 0 y⟩ := ⟨by dsimp only; omega, by dsimp only; omega, by dsimp only; omega, by dsimp only; omega, by dsimp only; omega, by dsimp only; omega⟩
  refine ⟨may_of (.inr k), k.ok, fun u v => ?_⟩
  rw [Bool.eq_iff_iff]
  simp only [Bool.and_eq_true, has_iff, ara]
  omega
structure Bxs (w U : World) (x y s : Int) (v : Value) : Prop where
 bel : Below w.heap.size w U
 c8 : U.cell? ⟨w.heap.size, 0, none⟩ = some (.int .i64 x)
 c9 : U.cell? ⟨w.heap.size + 1, 0, none⟩ = some (.int .i64 y)
 c10 : U.cell? ⟨w.heap.size + 1 + 1, 0, none⟩ = some (.int .i64 s)
 c12 : U.cell? ⟨w.heap.size + 1 + 1 + 1, 0, none⟩ = some v
theorem bxs (w : World) (x y s : Int) (v : Value) : Bxs w ((((w.alloc (.cells #[.int .i64 x] 3)).alloc (.cells #[.int .i64 y] 3)).alloc (.cells #[.int .i64 s] 3)).alloc (.cells #[v] 89)) x y s v := by
 have h1 : Below w.heap.size w (w.alloc (.cells #[.int .i64 x] 3)) := below_new _ _
 have h2 := h1.alloc h1.size (.cells #[.int .i64 y] 3)
 have h3 := h2.alloc h2.size (.cells #[.int .i64 s] 3)
 have h4 := h3.alloc h3.size (.cells #[v] 89)
 exact ⟨h4, by go_simp, by go_simp, by go_simp, by go_simp⟩
theorem cdraw_any (h : Cv 91 w p b W H L) (x y s t : Int) (hx : I64_RectA x) (hy : I64_RectA y) (hs : I64_RectA s) (ht : I64_RectA t) (a' : Option Addr) (m' c' : Nat) (pix : List Int) (hp : RdI .u32 w a' m' c' pix) (hm : m' ≤ 20000) (hab : 0 < m' → ∀ x, a' = some x → x.block ≠ b) (a : Option Addr) (n c : Nat) (l : List Rc) (hr : RdC w a n c l) (hn : n ≤ 40) :
  Calls Tryz.prog 38 #[.pointer (some ⟨p, 0, none⟩), .int .i64 x, .int .i64 y, .int .i64 s, .int .i64 t, .slice a' m' c', .slice a n c] w fun e w' => e = .returned (.tuple #[]) ∧ Cv 91 w' p b W H (drw W x y s t pix l L) ∧ Kp [b] w w' := by
 have hlt := h.lt
 have HX := hid (bxs w x y s (.slice a' m' c'))
 have HC := hid (h.on HX.out.bel)
 have HR := hid (hr.on HX.out.bel)
 have HP := hid (hp.on HX.out.bel)
 have HW := hid (And.intro h.hW h.hH)
 have hl := h.len
 have HLE : Hid (trn W (gD x y s pix) (fun _ _ => false) L = L) := trn_none hl (fun _ _ _ _ => rfl)
 have HL := hid hl
 have hmf : ∀ (fn : Fn) (first cap : Array Value) (w : World), (Instr.makeFunc fn first cap).run Tryz.prog w = .ok (.func fn first cap) w := fun _ _ _ _ => rfl
 have C1 := hid (fun u => between_any 1 s 16777216 u)
 have C2 := hid (fun u => between_any 1 t 16777216 u)
 have C3 := hid (fun u => tooFar_any x u)
 have C4 := hid (fun u => tooFar_any y u)
 clear h hr hp hl
 go_enter Tryz.func38, Tryz.ntmps38
 go_wp2_with fail
 obtain ⟨U, HU⟩ : ∃ U, Hid (U = (((w.alloc (.cells #[.int .i64 x] 3)).alloc (.cells #[.int .i64 y] 3)).alloc (.cells #[.int .i64 s] 3)).alloc (.cells #[.slice a' m' c'] 89)) := ⟨_, rfl⟩
 rw [← HU.out] at HX HC HR HP
 rw [← HU.out]
 clear HU
 obtain ⟨hb, c8, c9, c10, c12⟩ := HX.out
 have HB := hid hb
 clear hb
 have no : okD x y s t = false → Hid (Cv 91 U p b W H (drw W x y s t pix l L) ∧ Kp [b] w U) := fun h => ⟨by rw [drw, if_neg (by rw [h]; decide)]; exact HC.out, kp_of_below HB.out [b]⟩
 cases h1 : decide (1 ≤ s) && decide (s ≤ 16777216)
 ·have HF := no (by rw [okD, h1]; rfl)
  rw [h1] at C1
  refine (C1.out _).mono ?_
  rintro e u1 ⟨rfl, rfl⟩
  go_wp2
  refine bodyPost_ret (results_none rfl _ _ _) rfl ?_
  exact ⟨rfl, HF.out⟩
 rw [h1] at C1
 refine (C1.out _).mono ?_
 rintro e u1 ⟨rfl, rfl⟩
 cases h2 : decide (1 ≤ t) && decide (t ≤ 16777216)
 ·have HF := no (by rw [okD, h1, h2]; rfl)
  rw [h2] at C2
  go_wp2_with fail
  refine (C2.out _).mono ?_
  rintro e u1 ⟨rfl, rfl⟩
  go_wp2
  refine bodyPost_ret (results_none rfl _ _ _) rfl ?_
  exact ⟨rfl, HF.out⟩
 rw [h2] at C2
 go_wp2_with fail
 refine (C2.out _).mono ?_
 rintro e u1 ⟨rfl, rfl⟩
 cases h3 : decide (-16777216 ≤ x) && decide (x ≤ 16777216)
 ·have HF := no (by rw [okD, h1, h2, h3]; rfl)
  rw [h3] at C3
  go_wp2_with fail
  refine (C3.out _).mono ?_
  rintro e u1 ⟨rfl, rfl⟩
  go_wp2
  refine bodyPost_ret (results_none rfl _ _ _) rfl ?_
  exact ⟨rfl, HF.out⟩
 rw [h3] at C3
 go_wp2_with fail
 refine (C3.out _).mono ?_
 rintro e u1 ⟨rfl, rfl⟩
 cases h4 : decide (-16777216 ≤ y) && decide (y ≤ 16777216)
 ·have HF := no (by rw [okD, h1, h2, h3, h4]; rfl)
  rw [h4] at C4
  go_wp2_with fail
  refine (C4.out _).mono ?_
  rintro e u1 ⟨rfl, rfl⟩
  go_wp2
  refine bodyPost_ret (results_none rfl _ _ _) rfl ?_
  exact ⟨rfl, HF.out⟩
 rw [h4] at C4
 go_wp2_with fail
 refine (C4.out _).mono ?_
 rintro e u1 ⟨rfl, rfl⟩
 have hok : okD x y s t = true := by rw [okD, h1, h2, h3, h4]; rfl
 obtain ⟨q1, q2, q3⟩ := cut_area HW.out.1 HW.out.2 hok
 have HEQ : Hid (trn W (gD x y s pix) (fun u v => has (cut (ara W H) ⟨x, y, s, t⟩) u v && inC l u v) L = drw W x y s t pix l L) := by
  rw [Hid, drw, if_pos hok]
  refine trn_congr HL.out fun u v hu hv => ?_
  rw [q3, has_ara HW.out.1.1 HW.out.2.1]
  have e1 : decide ((0 : Int) ≤ (u : Nat)) = true := decide_eq_true (by omega)
  have e2 : decide (((u : Nat) : Int) < W) = true := decide_eq_true (by omega)
  have e3 : decide ((0 : Int) ≤ (v : Nat)) = true := decide_eq_true (by omega)
  have e4 : decide (((v : Nat) : Int) < H) = true := decide_eq_true (by omega)
  rw [e1, e2, e3, e4]
  rfl
 have Q1 := hid q1
 have Q2 := hid q2
 have Q3 := hid q3
 have okr : (Rc.mk x y s t).Ok := ⟨hx, hy, hs, ht⟩
 simp only [Bool.and_eq_true, decide_eq_true_eq] at h1 h2 h3 h4
 clear no C1 C2 C3 C4 q1 q2 q3 hok
 go_wp2_with fail
 have hS : St_CanD u1 u1 p b W H (gD x y s pix) (fun _ _ => false) L := ⟨by rw [HLE.out]; exact HC.out, Kp.refl _ _⟩
 have hD := draw1_any (p := p) (W := W) (H := H) (L := L) (b := b) x y s h3 h4 h1 a' m' c' pix HP.out hm hab _ _ _ _ c12 c9 c10 c8 (by omega) (by omega) (by omega) (by omega) (has (cut (ara W H) ⟨x, y, s, t⟩)) (fun u v hh => by
  rw [Q3.out, Bool.and_eq_true] at hh
  have := has_iff.1 hh.2
  dsimp only at this
  omega)
 refine (each_any 68 _ (enters_of Tryz.func68 (by kernel_rfl) rfl) hS ⟨x, y, s, t⟩ hD okr Q1.out Q2.out a n c l HR.out hn (fun u v hh => by
  rw [Q3.out, Bool.and_eq_true] at hh
  exact hh.1)).mono ?_
 rintro e u2 ⟨rfl, hS2⟩
 have HC2 := hS2.cv
 rw [HEQ.out] at HC2
 have HK : Kp [b] w u2 := (kp_of_below HB.out [b]).trans hS2.kp (fun k hk _ => hk)
 clear hD hS hS2
 go_wp2
 go_end0
 exact ⟨rfl, HC2, HK⟩
end
section
structure Bk (u : World) (p T : Nat) (cs : Array Value) : Prop where
 obj : u.heap[p]? = some (.cells cs T (0, 0))
theorem Bk.lt {u : World} {p T : Nat} {cs : Array Value} (h : Bk u p T cs) : p < u.heap.size := (Array.getElem?_eq_some_iff.1 h.obj).1
theorem Bk.cell {u : World} {p T : Nat} {cs : Array Value} (h : Bk u p T cs) (k : Nat) : u.cell? ⟨p, k, none⟩ = cs[k]? := Lib.cell_of_heap h.obj k
theorem Bk.fz {u : World} {p T : Nat} {cs : Array Value} (h : Bk u p T cs) (k : Nat) : u.frozen? ⟨p, k, none⟩ = false := Lib.frozen_of_heap h.obj k
theorem Bk.on {u v : World} {p T : Nat} {cs : Array Value} (h : Bk u p T cs) (hb : Below u.heap.size u v) : Bk v p T cs := ⟨by rw [hb.block p h.lt]; exact h.obj⟩
theorem bk_new (w : World) (cs : Array Value) (T : Nat) : Bk (w.alloc (.cells cs T)) w.heap.size T cs := ⟨heap_alloc_new w _⟩
theorem Bk.set {u : World} {p T : Nat} {cs : Array Value} (h : Bk u p T cs) (k : Nat) (v : Value) : Bk (u.setCell ⟨p, k, none⟩ v) p T (cs.setIfInBounds k v) := ⟨heap_setCell_same _ p k _ _ _ h.obj⟩
theorem bel_new (w : World) (o : Obj) : Below w.heap.size w (w.alloc o) := (Below.refl _ _).alloc (Nat.le_refl _) _
theorem size_new (w : World) (o : Obj) : (w.alloc o).heap.size = w.heap.size + 1 := by simp
theorem results_cell_tmp' {P : Program} {fn : Func} {p u : Tmp} {ty : TypeId} (h : fn.results = #[.cell p ty, .tmp u]) (tmps : Array Value) (w : World) (g : Nat) (t : TypeId) (cs : Array Value) (fr : Nat × Nat) (d : TypeDesc)
  (hp : tmps.getD p undef = .pointer (some ⟨g, 0, none⟩)) (hg : w.heap[g]? = some (.cells cs t fr))
  (hu : P.underlying ty = some d) (hd_StaA : (match d with | .struct _ | .array _ _ => true | _ => false) = true) (hi : (P.info? ty).map (·.size) = some cs.size) :
  (results fn tmps).run P w = .ok (.tuple #[.agg cs, tmps.getD u undef]) w := by
 have hp' : tmps[p]?.getD undef = .pointer (some ⟨g, 0, none⟩) := by simpa using hp
 simp [results, h, hp', asAddr, run_loadVar_row w g t ty cs fr d hg hu hd_StaA hi]
theorem RdM.el6 {w : World} {a : Option Addr} {n c : Nat} {l : List (List Int)} (h : RdM 6 w a n c l) {j : Nat} (hj : j < n) : ∃ b off z0 z1 z2 z3 z4 z5, a = some ⟨b, off, none⟩ ∧ b < w.heap.size ∧ l[j]? = some [z0, z1, z2, z3, z4, z5] ∧ w.cell? ⟨b, off + j * 6, none⟩ = some (.int .i64 z0) ∧ w.cell? ⟨b, off + j * 6 + 1, none⟩ = some (.int .i64 z1) ∧ w.cell? ⟨b, off + j * 6 + 2, none⟩ = some (.int .i64 z2) ∧ w.cell? ⟨b, off + j * 6 + 3, none⟩ = some (.int .i64 z3) ∧ w.cell? ⟨b, off + j * 6 + 4, none⟩ = some (.int .i64 z4) ∧ w.cell? ⟨b, off + j * 6 + 5, none⟩ = some (.int .i64 z5) := by
 obtain ⟨b, off, y, e, h1, h2, h3, h4⟩ := h.at_ hj
 match y, h3 with
 | [z0, z1, z2, z3, z4, z5], _ => exact ⟨b, off, z0, z1, z2, z3, z4, z5, e, h1, h2, by simpa using h4 0 z0 rfl, by simpa [Nat.add_assoc] using h4 1 z1 rfl, by simpa [Nat.add_assoc] using h4 2 z2 rfl, by simpa [Nat.add_assoc] using h4 3 z3 rfl, by simpa [Nat.add_assoc] using h4 4 z4 rfl, by simpa [Nat.add_assoc] using h4 5 z5 rfl⟩
theorem fits48 {need b : Nat} (h : need ≤ 1000000000) (hb : b ≤ 48) : ∀ old, old < need → Builtin.nextslicecap need old * b ≤ 281474976710656 := fun old ho => by
 have h1 := nextslicecap_near ho
 have h2 : Builtin.nextslicecap need old * b ≤ Builtin.nextslicecap need old * 48 := Nat.mul_le_mul_left _ hb
 omega
def nm5 (i : Nat) (y : List Int) : Int := y.getD i 0
end
section
structure Gv where
 b : Int
 w : Int
 h : Int
 a : Option Addr
 n : Nat
 c : Nat
 l : List Int
def gvv (g : Gv) : Array Value := #[.int .i64 g.b, .int .i64 g.w, .int .i64 g.h, .slice g.a g.n g.c]
structure Im where
 b : Int
 w : Int
 h : Int
 l : List Int
def gcl (g : Gv) : Im := ⟨g.b, g.w, g.h, g.l⟩
def gz : Gv := ⟨0, 0, 0, none, 0, 0, []⟩
def gf (k : Int) (gs : List Gv) : Option Gv := gs.find? fun g => g.b == k
def imf (k : Int) (I : List Im) : Option Im := I.find? fun x => x.b == k
theorem gf_imf (k : Int) (gs : List Gv) : imf k (gs.map gcl) = (gf k gs).map gcl := by
 rw [imf, gf, List.find?_map]
 rfl
theorem gf_at {k : Int} {gs : List Gv} {j : Nat} {g : Gv} (hN : ∀ (i : Nat) (x : Gv), i < j → gs[i]? = some x → x.b ≠ k) (hj : gs[j]? = some g) (hg : g.b = k) : gf k gs = some g := by
 induction gs generalizing j with
 | nil => simp at hj
 | cons x gs ih =>
  cases j with
  | zero =>
   simp only [List.getElem?_cons_zero, Option.some.injEq] at hj
   subst hj
   simp [gf, hg]
  | succ j =>
   have hx := hN 0 x (by omega) rfl
   have : (x.b == k) = false := by simpa using hx
   rw [gf, List.find?_cons, this]
   exact ih (j := j) (fun i y hi hy => hN (i + 1) y (by omega) (by simpa using hy)) (by simpa using hj)
theorem gf_none {k : Int} {gs : List Gv} (hN : ∀ (i : Nat) (x : Gv), gs[i]? = some x → x.b ≠ k) : gf k gs = none := by
 rw [gf, List.find?_eq_none]
 intro x hx
 obtain ⟨i, hi⟩ := List.getElem?_of_mem hx
 simpa using hN i x hi
theorem gf_mem {k : Int} {gs : List Gv} {g : Gv} (h : gf k gs = some g) : g ∈ gs := List.mem_of_find?_eq_some h
def fdv (o : Option Gv) : Value := .tuple #[.agg (gvv (o.getD gz)), .bool o.isSome]
def IxR (k : Int) (gs : List Gv) (e : Ending) : Prop := (e = .returned (.int .i64 (-1)) ∧ gf k gs = none) ∨ ∃ (j : Nat) (g : Gv), e = .returned (.int .i64 j) ∧ gs[j]? = some g ∧ gf k gs = some g
structure GOk (w : World) (g : Gv) : Prop where
 kb : I64_RectA g.b
 kw : I64_RectA g.w
 kh : I64_RectA g.h
 px : RdI .u32 w g.a g.n g.c g.l
theorem RdI.kp {k : IntKind} {w w' : World} {X : List Nat} {a : Option Addr} {n c : Nat} {l : List Int} (h : RdI k w a n c l) (hk : Kp X w w') (hX : 0 < n → ∀ x, a = some x → x.block ∉ X) : RdI k w' a n c l :=
 ⟨h.len, h.le, h.max, h.hnil, fun z hz j hj => by
  have h' := h.cells z hz j hj
  obtain ⟨b', off, e, _⟩ := h.plain (by omega)
  rw [hz] at e
  cases e
  rw [Go.WideShapes.add_plain] at h' ⊢
  exact hk.cell h' (by simpa using hX (by omega) _ hz), h.wf⟩
theorem GOk.kp {w u : World} {g : Gv} (h : GOk w g) {X : List Nat} (hk : Kp X w u) (hX : 0 < g.n → ∀ x, g.a = some x → x.block ∉ X) : GOk u g := ⟨h.kb, h.kw, h.kh, h.px.kp hk hX⟩
structure RdG (w : World) (a : Option Addr) (n c : Nat) (gs : List Gv) : Prop where
 len : gs.length = n
 le : n ≤ c
 max : c ≤ maxLen
 hnil : a = none → c = 0
 pl : 0 < n → ∃ b off, a = some ⟨b, off, none⟩ ∧ b < w.heap.size ∧ ∀ j g, gs[j]? = some g → ∀ i v, (gvv g)[i]? = some v → w.cell? ⟨b, off + (j * 4 + i), none⟩ = some v
 ok : ∀ g ∈ gs, GOk w g
theorem RdG.nil (w : World) : RdG w none 0 0 [] := ⟨rfl, Nat.le_refl _, Nat.zero_le _, fun _ => rfl, fun h => absurd h (by omega), by simp⟩
theorem RdG.small {w : World} {a : Option Addr} {n c : Nat} {gs : List Gv} (h : RdG w a n c gs) : n ≤ 9223372036854775807 ∧ c ≤ 9223372036854775807 := by
 have h1 := h.le
 have h2 := h.max
 simp only [maxLen] at h2
 omega
structure GAp (X : List Nat) (a : Option Addr) (n : Nat) (gs : List Gv) : Prop where
 row : 0 < n → ∀ x, a = some x → x.block ∉ X
 px : ∀ g ∈ gs, 0 < g.n → ∀ x, g.a = some x → x.block ∉ X
theorem RdG.kp {w u : World} {a : Option Addr} {n c : Nat} {gs : List Gv} (h : RdG w a n c gs) {X : List Nat} (hk : Kp X w u) (hX : GAp X a n gs) : RdG u a n c gs :=
 ⟨h.len, h.le, h.max, h.hnil, fun hn => by
  obtain ⟨b, off, e, h1, h2⟩ := h.pl hn
  exact ⟨b, off, e, Nat.lt_of_lt_of_le h1 hk.size, fun j g hj i v hv => hk.cell (h2 j g hj i v hv) (by simpa using hX.row hn _ e)⟩, fun g hg => (h.ok g hg).kp hk (hX.px g hg)⟩
theorem RdG.on {w u : World} {a : Option Addr} {n c : Nat} {gs : List Gv} (h : RdG w a n c gs) (hb : Below w.heap.size w u) : RdG u a n c gs := h.kp (kp_of_below hb []) ⟨fun _ _ _ => by simp, fun _ _ _ _ _ => by simp⟩
theorem RdG.el {w : World} {a : Option Addr} {n c : Nat} {gs : List Gv} (h : RdG w a n c gs) {j : Nat} (hj : j < n) : ∃ b off g, a = some ⟨b, off, none⟩ ∧ b < w.heap.size ∧ gs[j]? = some g ∧ GOk w g ∧ w.cell? ⟨b, off + j * 4, none⟩ = some (.int .i64 g.b) ∧ w.cell? ⟨b, off + j * 4 + 1, none⟩ = some (.int .i64 g.w) ∧ w.cell? ⟨b, off + j * 4 + 2, none⟩ = some (.int .i64 g.h) ∧ w.cell? ⟨b, off + j * 4 + 3, none⟩ = some (.slice g.a g.n g.c) := by
 obtain ⟨b, off, e, h1, h2⟩ := h.pl (by omega)
 have hl := h.len
 have hg : gs[j]? = some gs[j] := List.getElem?_eq_getElem (by omega)
 have h4 := h2 j _ hg
 exact ⟨b, off, _, e, h1, hg, h.ok _ (List.mem_of_getElem? hg), by simpa using h4 0 (.int .i64 gs[j].b) rfl, by simpa [Nat.add_assoc] using h4 1 (.int .i64 gs[j].w) rfl, by simpa [Nat.add_assoc] using h4 2 (.int .i64 gs[j].h) rfl, by simpa [Nat.add_assoc] using h4 3 (.slice gs[j].a gs[j].n gs[j].c) rfl⟩
def ptc (W : Nat) (l : List Rc) (I : List Im) (L : List Int) (y : List Int) : List Int := match imf (nm5 1 y) I with
 | some x => drw W (nm5 2 y) (nm5 3 y) x.w x.h x.l l L
 | none => L
def pnc (W : Nat) (back : Int) (l : List Rc) (V : List (List Int)) (I : List Im) (L : List Int) : List Int := V.foldl (ptc W l I) (fll W back l L)
end
end Go.Proofs.YtpbgbpcdohdecaaGreatDoor
