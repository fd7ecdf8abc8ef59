/- Lemmas that the proof leans on. -/
import Derived.Test.YtpbgbpcdohdecaaGreatDoorB13
import Derived.Shelf.SlicesG.CompactI
import Derived.Shelf.SlicesG.Equal
namespace Go.Proofs.YtpbgbpcdohdecaaGreatDoor
open Go Go.RowKit
set_option maxRecDepth 100000
set_option maxHeartbeats 1000000
section
structure RdJ (w : World) (a : Option Addr) (n c : Nat) (l : List Int) : Prop where
 len : l.length = n
 le : n ≤ c
 max : c ≤ maxLen
 hnil : a = none → c = 0
 pl : 0 < n → ∃ b off, a = some ⟨b, off, none⟩ ∧ b < w.heap.size ∧ ∀ j z, l[j]? = some z → w.cell? ⟨b, off + j, none⟩ = some (.int .i64 z)
theorem RdJ.on {w u : World} {a : Option Addr} {n c : Nat} {l : List Int} (h : RdJ w a n c l) (hb : Below w.heap.size w u) : RdJ u a n c l :=
 ⟨h.len, h.le, h.max, h.hnil, fun hn => by
  obtain ⟨b, off, e, h1, h2⟩ := h.pl hn
  exact ⟨b, off, e, Nat.lt_of_lt_of_le h1 hb.size, fun j r hr => by rw [hb.cell h1]; exact h2 j r hr⟩⟩
theorem RdJ.nil (w : World) : RdJ w none 0 0 [] := ⟨rfl, Nat.le_refl _, Nat.zero_le _, fun _ => rfl, fun h => absurd h (by omega)⟩
theorem RdJ.small {w : World} {a : Option Addr} {n c : Nat} {l : List Int} (h : RdJ w a n c l) : n ≤ 9223372036854775807 ∧ c ≤ 9223372036854775807 := by
 have h1 := h.le
 have h2 := h.max
 simp only [maxLen] at h2
 omega
theorem RdJ.el {w : World} {a : Option Addr} {n c : Nat} {l : List Int} (h : RdJ w a n c l) {j : Nat} (hj : j < n) : ∃ b off z, a = some ⟨b, off, none⟩ ∧ b < w.heap.size ∧ l[j]? = some z ∧ w.cell? ⟨b, off + j, none⟩ = some (.int .i64 z) := by
 have hl := h.len
 obtain ⟨b, off, e, h1, h2⟩ := h.pl (by omega)
 have hr : l[j]? = some l[j] := List.getElem?_eq_getElem (by omega)
 exact ⟨b, off, _, e, h1, hr, h2 j _ hr⟩
theorem RdJ.none_of {w : World} (a : Option Addr) (c : Nat) (hc : c ≤ maxLen) (hn : a = none → c = 0) : RdJ w a 0 c [] := ⟨rfl, Nat.zero_le _, hc, hn, fun h => absurd h (by omega)⟩
def nums (l : List Int) : List Value := l.map (Value.int .i64)
theorem nums_length (l : List Int) : (nums l).length = l.length := by simp [nums]
theorem nums_append (a b : List Int) : nums (a ++ b) = nums a ++ nums b := by simp [nums]
theorem rdj_of_owns {w : World} {base e n : Nat} {v : Value} {l : List Int} (h : w.ownsRow base e 1 v n (nums l)) : ∃ a c, v = .slice a n c ∧ RdJ w a n c l := by
 have hl : l.length = n := by have := h.1; rw [nums_length] at this; omega
 rcases h.2 with ⟨rfl, rfl⟩ | ⟨g, cap, cur, rfl, hb, hg, hn, hm, _, _⟩
 ·obtain rfl : l = [] := List.eq_nil_of_length_eq_zero hl
  exact ⟨none, 0, rfl, RdJ.nil w⟩
 ·refine ⟨some ⟨g, 0, none⟩, cap, rfl, hl, hn, hm, (fun h => by cases h), fun _ => ⟨g, 0, rfl, (h.lt g rfl).2, fun j z hz => ?_⟩⟩
  have hj : j < n := by rw [← hl]; exact (List.getElem?_eq_some_iff.1 hz).1
  rw [Nat.zero_add, h.cellAt j (by omega), nums, List.getElem?_map, hz]
  rfl
theorem from_any (a : Option Addr) (n c : Nat) (l : List Rc) (y : Int) (w0 w : World) (h : RdC w0 a n c l) (hb0 : Below w0.heap.size w0 w) (hk : ∀ x ∈ l, Ck x) :
  Calls Tryz.prog 263 #[.slice a n c, .int .i64 y] w fun e w' => ∃ a' c', e = .returned (.slice a' (frm l y).length c') ∧ RdC w0 a' (frm l y).length c' (frm l y) ∧ ∃ q, w' = w.drewN q := by
 have H := hid h
 have HB0 := hid hb0
 clear hb0
 have HK := hid hk
 clear h hk
 go_enter Tryz.func263, Tryz.ntmps263
 go_wp2
 go_loopw [0] (fun v wr => ∃ (a1 : Option Addr) (n1 c1 : Nat) (l1 : List Rc), v = .slice a1 n1 c1 ∧ RdC w0 a1 n1 c1 l1 ∧ (∀ x ∈ l1, Ck x) ∧ frm l1 y = frm l y ∧ ∃ q, wr = w.drewN q) (fun v _ => lenOf v)
 case atStart => exact ⟨a, n, c, l, rfl, H.out, HK.out, rfl, 0, rfl⟩
 case round =>
  obtain ⟨a1, n1, c1, l1, rfl, h1, k1, hp, q, rfl⟩ := hrel
  have hn1 := h1.len
  have hs1 := h1.small
  cases l1 with
  | nil =>
   obtain rfl : n1 = 0 := hn1.symm
   have HE : Hid (frm l y = []) := by rw [Hid, ← hp]; rfl
   have H1 := hid h1
   clear hp h1 hn1
   go_wp2
   go_quiet (fail)
   go_wp2
   go_ret
   rw [HE.out, World.drewN_drewN]
   exact ⟨_, _, rfl, H1.out, _, rfl⟩
  | cons r t =>
   have hn0 : 0 < n1 := by rw [← hn1]; simp
   have e1 : decide (0 < (n1 : Int)) = true := decide_eq_true (by omega)
   obtain ⟨b, off, rfl, hb, hel⟩ := (h1.on HB0.out).pl hn0
   obtain ⟨_, _, y0, _, h0⟩ := hel 0 r rfl
   simp only [Nat.zero_mul, Nat.add_zero] at y0 h0
   have e2 : IntKind.i64.wrap (r.y + r.h) = r.y + r.h := by
    obtain ⟨g1, g2, g3, g4, g5, g6⟩ := k1 r (by simp)
    rw [IntKind.wrap_i64]
    omega
   have H1 := hid h1
   have HD := hid (h1.drop (show 1 ≤ n1 by omega))
   have K1 := hid k1
   have HP := hid hp
   have hle := h1.le
   rw [List.drop_one, List.tail_cons, Nat.one_mul] at HD
   clear hp h1 hel k1
   have HN := hid hn1
   clear hn1
   cases hq : decide (r.y + r.h ≤ y)
   ·have HE : Hid (frm l y = r :: t) := by rw [Hid, ← HP.out, frm, List.dropWhile_cons, if_neg (by rw [hq]; decide)]
    go_wp2
    go_quiet (fail)
    go_wp2
    go_ret
    rw [HE.out, HN.out, World.drewN_drewN]
    exact ⟨some ⟨b, off, none⟩, c1, rfl, H1.out, _, rfl⟩
   ·have HE : Hid (frm t y = frm l y) := by rw [Hid, ← HP.out, frm, frm, List.dropWhile_cons, if_pos hq]
    by_cases hc : c1 = 1
    ·obtain rfl : n1 = 1 := by omega
     have HD2 : Hid (RdC w0 (some ⟨b, off, none⟩) 0 0 t) := by
      have h1 := HD.out.len
      rw [Hid, List.eq_nil_of_length_eq_zero h1]
      exact RdC.none_of _ _ (Nat.zero_le _) (fun h => by cases h)
     subst hc
     go_wp2
     go_quiet (fail)
     go_wp2
     go_roundw
     case rel => exact ⟨_, _, _, t, rfl, HD2.out, fun x hx => K1.out x (by simp [hx]), HE.out, _, rfl⟩
     case measure => simp [lenOf]
    ·go_wp2
     go_quiet (fail)
     go_wp2
     go_roundw
     case rel => exact ⟨_, _, _, t, rfl, HD.out, fun x hx => K1.out x (by simp [hx]), HE.out, _, rfl⟩
     case measure => simp [lenOf]; omega
def od (n : Nat) : Bool := decide (n % 2 = 1)
theorem od_succ (n : Nat) : od (n + 1) = !od n := by
 unfold od
 rw [Bool.eq_iff_iff]
 simp
 omega
theorem odd_any (n : Nat) (w : World) : Calls Tryz.prog 296 #[.int .i64 n] w fun e w' => e = .returned (.bool (od n)) ∧ w' = w := by
 have hr : (n : Int).tmod 2 = ((n % 2 : Nat) : Int) := by rw [Int.tmod_eq_emod_of_nonneg (by omega)]; omega
 go_enter Tryz.func296, Tryz.ntmps296
 go_wp2
 go_ret
 refine ⟨ret_bool_RectA ?_, rfl⟩
 rw [od, Bool.eq_iff_iff]
 simp
 omega
def lst (a b : List Int) : Int := match a, b with
 | [], [] => 0
 | [], y :: _ => y
 | x :: _, [] => x
 | x :: _, y :: _ => min x y
theorem least_any (a a' : Option Addr) (n c n' c' : Nat) (l m : List Int) (w : World) (h : RdJ w a n c l) (h' : RdJ w a' n' c' m) (h0 : 0 < n ∨ 0 < n') :
  Calls Tryz.prog 295 #[.slice a n c, .slice a' n' c'] w fun e w' => e = .returned (.int .i64 (lst l m)) ∧ ∃ q, w' = w.drewN q := by
 have hl := h.len
 have hl' := h'.len
 have hn63 := h.small.1
 have hn63' := h'.small.1
 cases l with
 | nil =>
  obtain rfl : n = 0 := hl.symm
  cases m with
  | nil => simp at hl'; omega
  | cons y m =>
   obtain ⟨b, off, rfl, hb, hel⟩ := h'.pl (by omega)
   have y0 := hel 0 y rfl
   simp only [Nat.add_zero] at y0
   have e1 : (0 : Int) < n' := by omega
   clear hel h h' h0 hl hl'
   go_enter Tryz.func295, Tryz.ntmps295
   go_wp2
   go_ret
   exact ⟨rfl, 0, rfl⟩
 | cons x l =>
  have hn0 : 0 < n := by rw [← hl]; simp
  obtain ⟨b, off, rfl, hb, hel⟩ := h.pl hn0
  have x0 := hel 0 x rfl
  simp only [Nat.add_zero] at x0
  have e1 : (0 : Int) < n := by omega
  have e3 : ((n : Int) == 0) = false := by simp; omega
  cases m with
  | nil =>
   obtain rfl : n' = 0 := hl'.symm
   clear hel h h' h0 hl
   go_enter Tryz.func295, Tryz.ntmps295
   go_wp2
   go_ret
   exact ⟨rfl, 0, rfl⟩
  | cons y m =>
   have hn1 : 0 < n' := by rw [← hl']; simp
   obtain ⟨b', off', rfl, hb', hel'⟩ := h'.pl hn1
   have y0 := hel' 0 y rfl
   simp only [Nat.add_zero] at y0
   have e2 : (0 : Int) < n' := by omega
   have e4 : ((n' : Int) == 0) = false := by simp; omega
   clear hel hel' h h' h0 hl hl'
   go_enter Tryz.func295, Tryz.ntmps295
   go_wp2
   go_region
   all_goals
    go_wp2
    go_ret
    exact ⟨rfl, _, rfl⟩
end
section
open Go Go.RowKit Go.Sort Go.Shelf
def sortA_ren_ShlB : Go.Shelf.Ren := ⟨fun | 5 => 99 | 8 => 161 | 7 => 160 | 19 => 229 | 20 => 230 | 10 => 220 | 11 => 221 | 12 => 222 | 13 => 223 | 14 => 224 | 15 => 225 | 16 => 226 | 17 => 227 | 18 => 228 | 30 => 276 | 31 => 277 | 32 => 278 | 33 => 279 | 34 => 280 | 35 => 281 | 40 => 303 | n => n, fun | 23 => 120 | 25 => 3 | 3 => 3 | 32 => 221 | 22 => 120 | 0 => 0 | 44 => 55 | 46 => 330 | 4 => 4 | 36 => 323 | 35 => 322 | 41 => 258 | 5 => 5 | 9 => 9 | 53 => 365 | 57 => 369 | 63 => 385 | 64 => 94 | n => n, fun | n => n⟩
theorem sortA_ShlB : Go.Proofs.SlLaysM.n5 Tryz.prog sortA_ren_ShlB := {
 mixed := by kernel_rfl
 f5 := ⟨Tryz.f99.name, by decide, Tryz.func99.trans (congrArg some (by kernel_rfl))⟩
 f7 := ⟨Tryz.f160.name, by decide, Tryz.func160.trans (congrArg some (by kernel_rfl))⟩
 f8 := Tryz.func161.trans (congrArg some (by kernel_rfl))
 f10 := ⟨Tryz.f220.name, by decide, Tryz.func220.trans (congrArg some (by kernel_rfl))⟩
 f11 := ⟨Tryz.f221.name, by decide, Tryz.func221.trans (congrArg some (by kernel_rfl))⟩
 f12 := ⟨Tryz.f222.name, by decide, Tryz.func222.trans (congrArg some (by kernel_rfl))⟩
 f13 := ⟨Tryz.f223.name, by decide, Tryz.func223.trans (congrArg some (by kernel_rfl))⟩
 f14 := ⟨Tryz.f224.name, by decide, Tryz.func224.trans (congrArg some (by kernel_rfl))⟩
 f15 := ⟨Tryz.f225.name, by decide, Tryz.func225.trans (congrArg some (by kernel_rfl))⟩
 f16 := ⟨Tryz.f226.name, by decide, Tryz.func226.trans (congrArg some (by kernel_rfl))⟩
 f17 := ⟨Tryz.f227.name, by decide, Tryz.func227.trans (congrArg some (by kernel_rfl))⟩
 f18 := ⟨Tryz.f228.name, by decide, Tryz.func228.trans (congrArg some (by kernel_rfl))⟩
 f19 := Tryz.func229.trans (congrArg some (by kernel_rfl))
 f20 := Tryz.func230.trans (congrArg some (by kernel_rfl))
 f30 := ⟨Tryz.f276.name, by decide, Tryz.func276.trans (congrArg some (by kernel_rfl))⟩
 f31 := Tryz.func277.trans (congrArg some (by kernel_rfl))
 f32 := Tryz.func278.trans (congrArg some (by kernel_rfl))
 f33 := ⟨Tryz.f279.name, by decide, Tryz.func279.trans (congrArg some (by kernel_rfl))⟩
 f34 := ⟨Tryz.f280.name, by decide, Tryz.func280.trans (congrArg some (by kernel_rfl))⟩
 f35 := ⟨Tryz.f281.name, by decide, Tryz.func281.trans (congrArg some (by kernel_rfl))⟩
 f40 := ⟨Tryz.f303.name, by decide, Tryz.func303.trans (congrArg some (by kernel_rfl))⟩
 t0 := Tryz.underlying0
 a0 := Tryz.isAgg0
 z0 := Tryz.sizeOf0
 v0 := Tryz.zeroValue0
 t3 := Tryz.underlying3
 a3 := Tryz.isAgg3
 z3 := Tryz.sizeOf3
 v3 := Tryz.zeroValue3
 t4 := Tryz.underlying4
 a4 := Tryz.isAgg4
 z4 := Tryz.sizeOf4
 v4 := Tryz.zeroValue4
 t5 := Tryz.underlying5
 a5 := Tryz.isAgg5
 z5 := Tryz.sizeOf5
 v5 := Tryz.zeroValue5
 t9 := Tryz.underlying9
 a9 := Tryz.isAgg9
 z9 := Tryz.sizeOf9
 v9 := Tryz.zeroValue9
 t22 := Tryz.underlying120
 a22 := Tryz.isAgg120
 z22 := Tryz.sizeOf120
 v22 := Tryz.zeroValue120
 t23 := Tryz.underlying120
 a23 := Tryz.isAgg120
 z23 := Tryz.sizeOf120
 v23 := Tryz.zeroValue120
 t25 := Tryz.underlying3
 a25 := Tryz.isAgg3
 z25 := Tryz.sizeOf3
 v25 := Tryz.zeroValue3
 t32 := Tryz.underlying221
 a32 := Tryz.isAgg221
 z32 := Tryz.sizeOf221
 v32 := Tryz.zeroValue221
 t35 := Tryz.underlying322
 a35 := Tryz.isAgg322
 z35 := Tryz.sizeOf322
 v35 := Tryz.zeroValue322
 t36 := Tryz.underlying323
 a36 := Tryz.isAgg323
 z36 := Tryz.sizeOf323
 v36 := Tryz.zeroValue323
 t41 := Tryz.underlying258
 a41 := Tryz.isAgg258
 z41 := Tryz.sizeOf258
 v41 := Tryz.zeroValue258
 t44 := Tryz.underlying55
 a44 := Tryz.isAgg55
 z44 := Tryz.sizeOf55
 v44 := Tryz.zeroValue55
 t46 := Tryz.underlying330
 a46 := Tryz.isAgg330
 z46 := Tryz.sizeOf330
 v46 := Tryz.zeroValue330
 t53 := Tryz.underlying365
 a53 := Tryz.isAgg365
 z53 := Tryz.sizeOf365
 v53 := Tryz.zeroValue365
 t57 := Tryz.underlying369
 a57 := Tryz.isAgg369
 z57 := Tryz.sizeOf369
 v57 := Tryz.zeroValue369
 t63 := Tryz.underlying385
 a63 := Tryz.isAgg385
 z63 := Tryz.sizeOf385
 v63 := Tryz.zeroValue385
 t64 := Tryz.underlying94
 a64 := Tryz.isAgg94
 z64 := Tryz.sizeOf94
 v64 := Tryz.zeroValue94 }
def compA_ren_ShlB : Go.Shelf.Ren := ⟨fun | 43 => 100 | n => n, fun | 22 => 120 | 23 => 3 | 3 => 3 | 4 => 4 | 0 => 0 | n => n, fun | n => n⟩
theorem compA_ShlB : Go.Proofs.SlLaysN.n43 Tryz.prog compA_ren_ShlB := {
 mixed := by kernel_rfl
 f43 := ⟨Tryz.f100.name, by decide, Tryz.func100.trans (congrArg some (by kernel_rfl))⟩
 t0 := Tryz.underlying0
 a0 := Tryz.isAgg0
 z0 := Tryz.sizeOf0
 v0 := Tryz.zeroValue0
 t3 := Tryz.underlying3
 a3 := Tryz.isAgg3
 z3 := Tryz.sizeOf3
 v3 := Tryz.zeroValue3
 t4 := Tryz.underlying4
 a4 := Tryz.isAgg4
 z4 := Tryz.sizeOf4
 v4 := Tryz.zeroValue4
 t22 := Tryz.underlying120
 a22 := Tryz.isAgg120
 z22 := Tryz.sizeOf120
 v22 := Tryz.zeroValue120
 t23 := Tryz.underlying3
 a23 := Tryz.isAgg3
 z23 := Tryz.sizeOf3
 v23 := Tryz.zeroValue3
 i23 := by kernel_rfl }
end
end Go.Proofs.YtpbgbpcdohdecaaGreatDoor
