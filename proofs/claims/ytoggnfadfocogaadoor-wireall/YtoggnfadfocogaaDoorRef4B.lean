/- The contracts of the document's own answer for chapter 4 (tableauref04): Head. -/
import Derived.Test.YtoggnfadfocogaaDoorWireF
import Derived.Test.YtoggnfadfocogaaDoorRefB
namespace Go.Proofs.YtoggnfadfocogaaDoor
open Go Go.RowKit

theorem ret4' {a a' : Int} {b b' c c' : Int} {x : Value} (h0 : a = a') (h : b = b') (h' : c = c') : Ending.returned (.tuple #[.int .i64 a, .int .i64 b, .int .i64 c, x]) = .returned (.tuple #[.int .i64 a', .int .i64 b', .int .i64 c', x]) := by rw [h0, h, h']

set_option maxRecDepth 100000 in
theorem rhead_short (w : World) (a : Option Addr) (n c : Nat) (hn : n < 8) :
    Calls Tryd.prog 18 #[.slice a n c] w fun e w' => e = .returned (.tuple #[.int .i64 0, .int .i64 0, .int .i64 0, .int .i64 2]) ∧ ∃ q, w' = w.drewN q := by
  have e1 : decide ((n : Int) < 8) = true := decide_eq_true (by omega)
  go_enter Tryd.func18, Tryd.ntmps18
  go_wp2
  (try simp only [Exit.inBlock, Exit.then])
  refine bodyPost_ret (results_tmp4 rfl _ _ _) rfl ?_
  exact ⟨rfl, 0, rfl⟩

set_option maxRecDepth 100000 in
set_option maxHeartbeats 1000000 in
theorem rhead_long (w : World) (a : Option Addr) (n c : Nat) (hn : ¬ n < 8) (hn2 : n ≤ 1152921504606846976) (v u : Nat) (hv : v < 4294967296) (hu : u < 4294967296) (E : Nat) (R0 R1 R2 : Nat)
    (hE : (u / 65536 < 8 ∨ u / 65536 % 4 ≠ 0) ∧ E = 3 ∧ R0 = 0 ∧ R1 = 0 ∧ R2 = 0 ∨ ¬ (u / 65536 < 8 ∨ u / 65536 % 4 ≠ 0) ∧ 4096 < u / 65536 ∧ E = 4 ∧ R0 = 0 ∧ R1 = 0 ∧ R2 = 0 ∨ ¬ (u / 65536 < 8 ∨ u / 65536 % 4 ≠ 0) ∧ ¬ 4096 < u / 65536 ∧ E = 0 ∧ R0 = v ∧ R1 = u % 65536 ∧ R2 = u / 65536)
    (H : Calls Tryd.prog 33 #[.slice a n c, .int .i64 0] w fun e w' => e = .returned (.tuple #[.int .u32 v, .int .i64 0]) ∧ ∃ q, w' = w.drewN q)
    (H2 : ∀ q, Calls Tryd.prog 33 #[.slice a n c, .int .i64 4] (w.drewN q) fun e w' => e = .returned (.tuple #[.int .u32 u, .int .i64 0]) ∧ ∃ q, w' = w.drewN q) :
    Calls Tryd.prog 18 #[.slice a n c] w fun e w' => e = .returned (.tuple #[.int .i64 R0, .int .i64 R1, .int .i64 R2, .int .i64 E]) ∧ ∃ q, w' = w.drewN q := by
  have H' : Hid (Calls Tryd.prog 33 #[.slice a n c, .int .i64 0] w fun e w' => e = .returned (.tuple #[.int .u32 v, .int .i64 0]) ∧ ∃ q, w' = w.drewN q) := H
  have H2' : Hid (∀ q, Calls Tryd.prog 33 #[.slice a n c, .int .i64 4] (w.drewN q) fun e w' => e = .returned (.tuple #[.int .u32 u, .int .i64 0]) ∧ ∃ q, w' = w.drewN q) := H2
  have e0 : decide ((n : Int) < 8) = false := decide_eq_false (by omega)
  have hA : bits BinOp.and IntKind.u32 (u : Int) 65535 = ((u % 65536 : Nat) : Int) := and_low u hu
  clear H H2 hn
  by_cases h8 : u / 65536 < 8
  · have e1 : decide ((u : Int) / 65536 < 8) = true := decide_eq_true (by omega)
    obtain ⟨rfl, rfl, rfl, rfl⟩ : E = 3 ∧ R0 = 0 ∧ R1 = 0 ∧ R2 = 0 := by rcases hE with h | h | h <;> omega
    clear hE h8
    go_enter Tryd.func18, Tryd.ntmps18
    go_wp2_with fail
    refine H'.out.mono ?_
    rintro e w2 ⟨rfl, q, rfl⟩
    go_wp2_with fail
    refine (H2'.out q).mono ?_
    rintro e w3 ⟨rfl, q2, rfl⟩
    go_wp2
    (try simp only [Exit.inBlock, Exit.then])
    refine bodyPost_ret (results_tmp4 rfl _ _ _) rfl ?_
    exact ⟨rfl, _, rfl⟩
  have e1 : decide ((u : Int) / 65536 < 8) = false := decide_eq_false (by omega)
  by_cases h4 : u / 65536 % 4 ≠ 0
  · have e2 : ((u : Int) / 65536 % 4 != 0) = true := by rw [bne_iff_ne]; omega
    obtain ⟨rfl, rfl, rfl, rfl⟩ : E = 3 ∧ R0 = 0 ∧ R1 = 0 ∧ R2 = 0 := by rcases hE with h | h | h <;> omega
    clear hE h8 h4
    go_enter Tryd.func18, Tryd.ntmps18
    go_wp2_with fail
    refine H'.out.mono ?_
    rintro e w2 ⟨rfl, q, rfl⟩
    go_wp2_with fail
    refine (H2'.out q).mono ?_
    rintro e w3 ⟨rfl, q2, rfl⟩
    go_wp2
    (try simp only [Exit.inBlock, Exit.then])
    refine bodyPost_ret (results_tmp4 rfl _ _ _) rfl ?_
    exact ⟨rfl, _, rfl⟩
  have e2 : ((u : Int) / 65536 % 4 != 0) = false := by rw [bne_eq_false_iff_eq]; omega
  by_cases hg : 4096 < u / 65536
  · have e3 : decide ((4096 : Int) < (u : Int) / 65536) = true := decide_eq_true (by omega)
    obtain ⟨rfl, rfl, rfl, rfl⟩ : E = 4 ∧ R0 = 0 ∧ R1 = 0 ∧ R2 = 0 := by rcases hE with h | h | h <;> omega
    clear hE h8 h4 hg
    go_enter Tryd.func18, Tryd.ntmps18
    go_wp2_with fail
    refine H'.out.mono ?_
    rintro e w2 ⟨rfl, q, rfl⟩
    go_wp2_with fail
    refine (H2'.out q).mono ?_
    rintro e w3 ⟨rfl, q2, rfl⟩
    go_wp2
    (try simp only [Exit.inBlock, Exit.then])
    refine bodyPost_ret (results_tmp4 rfl _ _ _) rfl ?_
    exact ⟨rfl, _, rfl⟩
  · have e3 : decide ((4096 : Int) < (u : Int) / 65536) = false := decide_eq_false (by omega)
    obtain ⟨rfl, rfl, rfl, rfl⟩ : E = 0 ∧ R0 = v ∧ R1 = u % 65536 ∧ R2 = u / 65536 := by rcases hE with h | h | h <;> omega
    clear hE h8 h4 hg
    go_enter Tryd.func18, Tryd.ntmps18
    go_wp2_with fail
    refine H'.out.mono ?_
    rintro e w2 ⟨rfl, q, rfl⟩
    go_wp2_with fail
    refine (H2'.out q).mono ?_
    rintro e w3 ⟨rfl, q2, rfl⟩
    go_wp2
    (try simp only [Exit.inBlock, Exit.then])
    refine bodyPost_ret (results_tmp4 rfl _ _ _) rfl ?_
    exact ⟨ret4' (by omega) (by omega) (by omega), _, rfl⟩

theorem rhead_any (w : World) (a : Option Addr) (n c : Nat) (l : List UInt8) (hr : Rd w a n c l) (hn : n ≤ 1152921504606846976) :
    Calls Tryd.prog 18 #[.slice a n c] w fun e w' => e = .returned (.tuple #[.int .i64 (hdO l), .int .i64 (hdP l), .int .i64 (hdS l), .int .i64 (hdE l)]) ∧ ∃ q, w' = w.drewN q := by
  have hl := hr.len
  have H1 := rGet_any w a n c l hr hn 0
  have H2 : ∀ q, Calls Tryd.prog 33 #[.slice a n c, .int .i64 4] (w.drewN q) fun e w' => e = .returned (.tuple #[.int .u32 (getV l 4), .int .i64 (getE l 4)]) ∧ ∃ q, w' = w.drewN q := fun q => by
    have hb : Below w.heap.size w (w.drewN q) := below_drewN (Below.refl _ _) q
    refine (rGet_any (w.drewN q) a n c l (hr.below hb (rd_low hr)) hn 4).mono ?_
    rintro e w' ⟨rfl, q', rfl⟩
    exact ⟨rfl, drewN2 _ _ _⟩
  by_cases h8 : l.length < 8
  · have e0 : hdE l = 2 := by rw [hdE, if_pos h8]
    have e1 : hdO l = 0 := by rw [hdO, e0]; rfl
    have e2 : hdP l = 0 := by rw [hdP, e0]; rfl
    have e3 : hdS l = 0 := by rw [hdS, e0]; rfl
    rw [e0, e1, e2, e3]
    exact rhead_short w a n c (by omega)
  · have g : getE l 0 = 0 := getE_ok (l := l) (k := 0) (by omega)
    have gv : getV l 0 = num4 l 0 := getV_ok (l := l) (k := 0) (by omega)
    have g4 : getE l 4 = 0 := getE_ok (l := l) (k := 4) (by omega)
    have gv4 : getV l 4 = num4 l 4 := getV_ok (l := l) (k := 4) (by omega)
    rw [g, gv] at H1
    rw [g4, gv4] at H2
    refine rhead_long w a n c (by omega) hn _ _ (num4_lt l 0) (num4_lt l 4) _ _ _ _ ?_ H1 H2
    by_cases hb : hdZ l < 8 ∨ hdZ l % 4 ≠ 0
    · have e0 : hdE l = 3 := by rw [hdE, if_neg h8, if_pos hb]
      exact .inl ⟨hb, e0, by rw [hdO, e0]; rfl, by rw [hdP, e0]; rfl, by rw [hdS, e0]; rfl⟩
    · by_cases hg : 4096 < hdZ l
      · have e0 : hdE l = 4 := by rw [hdE, if_neg h8, if_neg hb, if_pos hg]
        exact .inr (.inl ⟨hb, hg, e0, by rw [hdO, e0]; rfl, by rw [hdP, e0]; rfl, by rw [hdS, e0]; rfl⟩)
      · have e0 : hdE l = 0 := by rw [hdE, if_neg h8, if_neg hb, if_neg hg]
        exact .inr (.inr ⟨hb, hg, e0, by rw [hdO, if_pos e0], by rw [hdP, if_pos e0], by rw [hdS, if_pos e0]; rfl⟩)
end Go.Proofs.YtoggnfadfocogaaDoor
