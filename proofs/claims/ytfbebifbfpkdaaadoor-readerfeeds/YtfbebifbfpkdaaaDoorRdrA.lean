/- What stage 5 wants of the elder stages: the contracts of tableauref01's Put and Get, of wire.Head, tableauref04.Head and tableaulaw00.Place; nothing that was there is turned. -/
import Derived.Test.YtfbebifbfpkdaaaDoorWordG
import Derived.Test.YtfbebifbfpkdaaaDoorKindA
import Derived.Test.YtfbebifbfpkdaaaDoorLibC
import Derived.Deep.RegionHeldLaw
import Derived.Deep.RegionLaw
import Derived.Laws.BitsAllLaws
import Derived.BigQuiet
import Derived.Lib.Builder
import Derived.Laws.CopyOwn
import Derived.Laws.StructEq
namespace Go.Proofs.YtfbebifbfpkdaaaDoor
open Go Go.RowKit

theorem drewN2 (w : World) (p q : Nat) : ∃ r, (w.drewN p).drewN q = w.drewN r := ⟨p + q, by simp⟩

theorem Below.on {w w1 w2 : World} (h : Below w.heap.size w w1) (h2 : Below w1.heap.size w1 w2) : Below w.heap.size w w2 := h.trans (h2.mono h.size)

theorem wpAnyH_mono {P : Program} {md : Region.Mode} {ops : Array Oper} {Q : Exit → Act → World → Prop} {S S' : World → Prop} (h : ∀ x, S' x → S x) : ∀ {fuel : Nat} {listed : Array Bool} {a : Act} {w : World}, wpAnyH P md ops Q S' fuel listed a w → wpAnyH P md ops Q S fuel listed a w
  | 0, _, _, _, hh => hh
  | _ + 1, _, _, _, hh => ⟨hh.1, fun i hi => wpOp_mono (fun _ _ q => ⟨h _ q.1, wpAnyH_mono h q.2⟩) (hh.2 i hi)⟩

theorem ownsRow_low {w : World} {base base' e size n : Nat} {v : Value} {xs : List Value} (h : w.ownsRow base e size v n xs) (hb : base' ≤ base) : w.ownsRow base' e size v n xs := by
  refine ⟨h.1, ?_⟩
  rcases h.2 with q | ⟨g, cap, cur, e1, e2, e3⟩
  · exact .inl q
  · exact .inr ⟨g, cap, cur, e1, by omega, e3⟩

theorem ownsRow_below {w w' : World} {base e size n : Nat} {v : Value} {xs : List Value} (h : w.ownsRow base e size v n xs) (hb : Below w.heap.size w w') : w'.ownsRow base e size v n xs := by
  refine ⟨h.1, ?_⟩
  rcases h.2 with q | ⟨g, cap, cur, e1, e2, e3, e4⟩
  · exact .inl q
  · exact .inr ⟨g, cap, cur, e1, e2, by rw [hb.block _ (Array.getElem?_eq_some_iff.1 e3).1]; exact e3, e4⟩

theorem below_drewN {u v : World} {B : Nat} (h : Below B u v) (q : Nat) : Below B u (v.drewN q) := ⟨h.os, h.tape, h.output, h.size, h.block⟩

theorem rPut_any (w : World) (v : Nat) (h1 : v < 4294967296) :
    Calls Tryd.prog 16 #[.int .u32 v] w fun e w' => ∃ r, e = .returned r ∧ w'.ownsRow w.heap.size 5 1 r 4 (bc (le4 v)) ∧ Below w.heap.size w w' := by
  have hb : (v : Int) < 4294967296 := by omega
  have H4 : Hid (bc (le4 v) = [.int .u8 ((v : Int) % 256), .int .u8 ((v : Int) / 256 % 256), .int .u8 ((v : Int) / 65536 % 256), .int .u8 ((v : Int) / 16777216)]) := bc_le4 v h1
  go_enter Tryd.func16, Tryd.ntmps16
  go_wp2
  go_ret
  refine ⟨_, rfl, ?_, (Below.refl _ _).alloc (Nat.le_refl _) _⟩
  rw [H4.out]
  exact ⟨rfl, .inr ⟨w.heap.size, 4, _, rfl, Nat.le_refl _, heap_alloc_new w _, Nat.le_refl _, by decide, rfl, rfl⟩⟩

theorem rGet_arg (w : World) (a : Option Addr) (n c : Nat) (p : Int) (h : p < 0 ∨ (n : Int) < p) :
    Calls Tryd.prog 23 #[.slice a n c, .int .i64 p] w fun e w' => e = .returned (.tuple #[.int .u32 0, .int .i64 1]) ∧ ∃ q, w' = w.drewN q := by
  rcases h with h | h
  · go_enter Tryd.func23, Tryd.ntmps23
    go_wp2
    go_ret2
    exact ⟨rfl, 0, rfl⟩
  · have h0 : ¬ p < 0 := by omega
    go_enter Tryd.func23, Tryd.ntmps23
    go_wp2
    go_ret2
    exact ⟨rfl, 0, rfl⟩

theorem rGet_short (w : World) (a : Option Addr) (n c : Nat) (_hn : n ≤ 1152921504606846976) (p : Int) (h0 : 0 ≤ p) (hp : p ≤ n) (hs : (n : Int) - p < 4) :
    Calls Tryd.prog 23 #[.slice a n c, .int .i64 p] w fun e w' => e = .returned (.tuple #[.int .u32 0, .int .i64 2]) ∧ ∃ q, w' = w.drewN q := by
  go_enter Tryd.func23, Tryd.ntmps23
  go_wp2
  go_ret2
  exact ⟨rfl, 0, rfl⟩

set_option maxRecDepth 100000 in
theorem rGet_ok (w : World) (b off n c : Nat) (hn : n ≤ 1152921504606846976) (k : Nat) (hk : k + 4 ≤ n) (z0 z1 z2 z3 : Nat)
    (c0 : w.cell? ⟨b, off + k, none⟩ = some (.int .u8 z0)) (c1 : w.cell? ⟨b, off + (k + 1), none⟩ = some (.int .u8 z1)) (c2 : w.cell? ⟨b, off + (k + 2), none⟩ = some (.int .u8 z2)) (c3 : w.cell? ⟨b, off + (k + 3), none⟩ = some (.int .u8 z3))
    (b0 : z0 < 256) (b1 : z1 < 256) (b2 : z2 < 256) (b3 : z3 < 256) :
    Calls Tryd.prog 23 #[.slice (some ⟨b, off, none⟩) n c, .int .i64 k] w fun e w' => e = .returned (.tuple #[.int .u32 (z0 + z1 * 256 + z2 * 65536 + z3 * 16777216 : Nat), .int .i64 0]) ∧ ∃ q, w' = w.drewN q := by
  have h0 : ¬ ((k : Int) < 0) := by omega
  have h1 : ¬ ((n : Int) < k) := by omega
  have h2 : ¬ ((n : Int) - k < 4) := by omega
  have h3 : (k : Int) + 3 < n := by omega
  go_enter Tryd.func23, Tryd.ntmps23
  go_wp2
  go_quiet (fail)
  go_wp2
  go_ret2
  exact ⟨ret2 (by omega), _, rfl⟩

theorem rGet_any (w : World) (a : Option Addr) (n c : Nat) (l : List UInt8) (hr : Rd w a n c l) (hn : n ≤ 1152921504606846976) (p : Int) :
    Calls Tryd.prog 23 #[.slice a n c, .int .i64 p] w fun e w' => e = .returned (.tuple #[.int .u32 (getV l p), .int .i64 (getE l p)]) ∧ ∃ q, w' = w.drewN q := by
  have hl := hr.len
  by_cases h1 : p < 0 ∨ (l.length : Int) < p
  · have e1 : getE l p = 1 := by rw [getE, if_pos h1]
    have e2 : getV l p = 0 := by rw [getV, e1]; rfl
    rw [e1, e2]
    exact rGet_arg w a n c p (by omega)
  · by_cases h2 : (l.length : Int) - p < 4
    · have e1 : getE l p = 2 := by rw [getE, if_neg h1, if_pos h2]
      have e2 : getV l p = 0 := by rw [getV, e1]; rfl
      rw [e1, e2]
      exact rGet_short w a n c hn p (by omega) (by omega) (by omega)
    · have e1 : getE l p = 0 := by rw [getE, if_neg h1, if_neg h2]
      have e2 : getV l p = num4 l p.toNat := by rw [getV, e1]; rfl
      obtain ⟨k, rfl⟩ := Int.eq_ofNat_of_zero_le (show 0 ≤ p by omega)
      rw [e1, e2]
      obtain ⟨b, off, rfl, hb, hc⟩ := hr.plain (by omega)
      have hb : ∀ x : UInt8, x.toNat < 256 := fun x => x.toNat_lt
      exact rGet_ok w b off n c hn k (by omega) _ _ _ _ (cell_at hc k (by omega)) (cell_at hc (k + 1) (by omega)) (cell_at hc (k + 2) (by omega)) (cell_at hc (k + 3) (by omega)) (hb _) (hb _) (hb _) (hb _)

/-! Head's answer. -/
def hdZ (l : List UInt8) : Nat := num4 l 4 / 65536
def hdE (l : List UInt8) : Nat := if l.length < 8 then 2 else if hdZ l < 8 ∨ hdZ l % 4 ≠ 0 then 3 else if 4096 < hdZ l then 4 else 0
def hdO (l : List UInt8) : Nat := if hdE l = 0 then num4 l 0 else 0
def hdP (l : List UInt8) : Nat := if hdE l = 0 then num4 l 4 % 65536 else 0
def hdS (l : List UInt8) : Nat := if hdE l = 0 then hdZ l else 0

theorem num4_lt (l : List UInt8) (i : Nat) : num4 l i < 4294967296 := by
  have h : ∀ x : UInt8, x.toNat < 256 := fun x => x.toNat_lt
  have h0 := h (l.getD i 0)
  have h1 := h (l.getD (i + 1) 0)
  have h2 := h (l.getD (i + 2) 0)
  have h3 := h (l.getD (i + 3) 0)
  unfold num4
  omega

theorem results_tmp4 {fn : Func} {t u v x : Tmp} (h : fn.results = #[.tmp t, .tmp u, .tmp v, .tmp x]) (tmps : Array Value) (P : Program) (w : World) :
    (results fn tmps).run P w = .ok (.tuple #[tmps.getD t undef, tmps.getD u undef, tmps.getD v undef, tmps.getD x undef]) w := by
  simp [results, h]

set_option maxRecDepth 100000 in
theorem head_short1 (w : World) (a : Option Addr) (n c : Nat) (x : Addr)
    (H : Calls Tryd.prog 22 #[.slice a n c, .int .i64 0] w fun e w' => e = .returned (.tuple #[.int .u32 0, .iface 85 (.pointer (some x))]) ∧ ∃ q, w' = w.drewN q) :
    Calls Tryd.prog 17 #[.slice a n c] w fun e w' => e = .returned (.tuple #[.int .i64 0, .int .i64 0, .int .i64 0, .iface 85 (.pointer (some x))]) ∧ ∃ q, w' = w.drewN q := by
  have H' : Hid (Calls Tryd.prog 22 #[.slice a n c, .int .i64 0] w fun e w' => e = .returned (.tuple #[.int .u32 0, .iface 85 (.pointer (some x))]) ∧ ∃ q, w' = w.drewN q) := H
  clear H
  go_enter Tryd.func17, Tryd.ntmps17
  go_wp2_with fail
  refine H'.out.mono ?_
  rintro e w2 ⟨rfl, q, rfl⟩
  go_wp2
  (try simp only [Exit.inBlock, Exit.then])
  refine bodyPost_ret (results_tmp4 rfl _ _ _) rfl ?_
  exact ⟨rfl, _, rfl⟩

set_option maxRecDepth 100000 in
theorem head_short2 (w : World) (a : Option Addr) (n c : Nat) (x : Addr) (v : Nat)
    (H : Calls Tryd.prog 22 #[.slice a n c, .int .i64 0] w fun e w' => e = .returned (.tuple #[.int .u32 v, .nilIface]) ∧ ∃ q, w' = w.drewN q)
    (H2 : ∀ q, Calls Tryd.prog 22 #[.slice a n c, .int .i64 4] (w.drewN q) fun e w' => e = .returned (.tuple #[.int .u32 0, .iface 85 (.pointer (some x))]) ∧ ∃ q, w' = w.drewN q) :
    Calls Tryd.prog 17 #[.slice a n c] w fun e w' => e = .returned (.tuple #[.int .i64 0, .int .i64 0, .int .i64 0, .iface 85 (.pointer (some x))]) ∧ ∃ q, w' = w.drewN q := by
  have H' : Hid (Calls Tryd.prog 22 #[.slice a n c, .int .i64 0] w fun e w' => e = .returned (.tuple #[.int .u32 v, .nilIface]) ∧ ∃ q, w' = w.drewN q) := H
  have H2' : Hid (∀ q, Calls Tryd.prog 22 #[.slice a n c, .int .i64 4] (w.drewN q) fun e w' => e = .returned (.tuple #[.int .u32 0, .iface 85 (.pointer (some x))]) ∧ ∃ q, w' = w.drewN q) := H2
  clear H H2
  go_enter Tryd.func17, Tryd.ntmps17
  go_wp2_with fail
  refine H'.out.mono ?_
  rintro e w2 ⟨rfl, q, rfl⟩
  go_wp2_with fail
  refine (H2'.out q).mono ?_
  rintro e w3 ⟨rfl, q2, rfl⟩
  go_wp2
  (try simp only [Exit.inBlock, Exit.then])
  refine bodyPost_ret (results_tmp4 rfl _ _ _) rfl ?_
  exact ⟨rfl, _, rfl⟩

theorem ret4 {a : Int} {b b' c c' : Int} {x : Value} (h : b = b') (h' : c = c') : Ending.returned (.tuple #[.int .i64 a, .int .i64 b, .int .i64 c, x]) = .returned (.tuple #[.int .i64 a, .int .i64 b', .int .i64 c', x]) := by rw [h, h']

theorem rd_low {w : World} {a : Option Addr} {n c : Nat} {l : List UInt8} (h : Rd w a n c l) : ∀ x, a = some x → 0 < l.length → x.block < w.heap.size := fun x hx hl => by
  have hl' := h.len
  obtain ⟨b, off, rfl, hb, _⟩ := h.plain (by omega)
  cases hx
  exact hb

theorem and_low (v : Nat) (h : v < 4294967296) : bits BinOp.and IntKind.u32 (v : Int) 65535 = ((v % 65536 : Nat) : Int) := by
  rw [show (65535 : Int) = ((65535 : Nat) : Int) from rfl, u32_and_nat _ _ h (by decide), Nat.and_two_pow_sub_one_eq_mod v 16]

set_option maxRecDepth 100000 in
set_option maxHeartbeats 1000000 in
theorem head_bad1 (w : World) (a : Option Addr) (n c : Nat) (v u : Nat) (hu : u < 4294967296) (v3 : Value) (h3 : w.cell? ⟨2, 0, none⟩ = some v3) (hb : u / 65536 < 8)
    (H : Calls Tryd.prog 22 #[.slice a n c, .int .i64 0] w fun e w' => e = .returned (.tuple #[.int .u32 v, .nilIface]) ∧ ∃ q, w' = w.drewN q)
    (H2 : ∀ q, Calls Tryd.prog 22 #[.slice a n c, .int .i64 4] (w.drewN q) fun e w' => e = .returned (.tuple #[.int .u32 u, .nilIface]) ∧ ∃ q, w' = w.drewN q) :
    Calls Tryd.prog 17 #[.slice a n c] w fun e w' => e = .returned (.tuple #[.int .i64 0, .int .i64 0, .int .i64 0, v3]) ∧ ∃ q, w' = w.drewN q := by
  have H' : Hid (Calls Tryd.prog 22 #[.slice a n c, .int .i64 0] w fun e w' => e = .returned (.tuple #[.int .u32 v, .nilIface]) ∧ ∃ q, w' = w.drewN q) := H
  have H2' : Hid (∀ q, Calls Tryd.prog 22 #[.slice a n c, .int .i64 4] (w.drewN q) fun e w' => e = .returned (.tuple #[.int .u32 u, .nilIface]) ∧ ∃ q, w' = w.drewN q) := H2
  clear H H2
  have e1 : decide ((u : Int) / 65536 < 8) = true := decide_eq_true (by omega)
  clear hb
  go_enter Tryd.func17, Tryd.ntmps17
  go_wp2_with fail
  refine H'.out.mono ?_
  rintro e w2 ⟨rfl, q, rfl⟩
  go_wp2_with fail
  refine (H2'.out q).mono ?_
  rintro e w3 ⟨rfl, q2, rfl⟩
  clear H' H2'
  go_wp2
  go_quiet (fail)
  go_wp2
  (try simp only [Exit.inBlock, Exit.then])
  refine bodyPost_ret (results_tmp4 rfl _ _ _) rfl ?_
  exact ⟨rfl, drewN2 _ _ _⟩

set_option maxRecDepth 100000 in
set_option maxHeartbeats 1000000 in
theorem head_bad2 (w : World) (a : Option Addr) (n c : Nat) (v u : Nat) (hu : u < 4294967296) (v3 : Value) (h3 : w.cell? ⟨2, 0, none⟩ = some v3) (hb : ¬ u / 65536 < 8) (hb2 : u / 65536 % 4 ≠ 0)
    (H : Calls Tryd.prog 22 #[.slice a n c, .int .i64 0] w fun e w' => e = .returned (.tuple #[.int .u32 v, .nilIface]) ∧ ∃ q, w' = w.drewN q)
    (H2 : ∀ q, Calls Tryd.prog 22 #[.slice a n c, .int .i64 4] (w.drewN q) fun e w' => e = .returned (.tuple #[.int .u32 u, .nilIface]) ∧ ∃ q, w' = w.drewN q) :
    Calls Tryd.prog 17 #[.slice a n c] w fun e w' => e = .returned (.tuple #[.int .i64 0, .int .i64 0, .int .i64 0, v3]) ∧ ∃ q, w' = w.drewN q := by
  have H' : Hid (Calls Tryd.prog 22 #[.slice a n c, .int .i64 0] w fun e w' => e = .returned (.tuple #[.int .u32 v, .nilIface]) ∧ ∃ q, w' = w.drewN q) := H
  have H2' : Hid (∀ q, Calls Tryd.prog 22 #[.slice a n c, .int .i64 4] (w.drewN q) fun e w' => e = .returned (.tuple #[.int .u32 u, .nilIface]) ∧ ∃ q, w' = w.drewN q) := H2
  clear H H2
  have e1 : decide ((u : Int) / 65536 < 8) = false := decide_eq_false (by omega)
  have e2 : ((u : Int) / 65536 % 4 != 0) = true := by rw [bne_iff_ne]; omega
  clear hb hb2
  go_enter Tryd.func17, Tryd.ntmps17
  go_wp2_with fail
  refine H'.out.mono ?_
  rintro e w2 ⟨rfl, q, rfl⟩
  go_wp2_with fail
  refine (H2'.out q).mono ?_
  rintro e w3 ⟨rfl, q2, rfl⟩
  clear H' H2'
  go_wp2
  go_quiet (fail)
  go_wp2
  (try simp only [Exit.inBlock, Exit.then])
  refine bodyPost_ret (results_tmp4 rfl _ _ _) rfl ?_
  exact ⟨rfl, drewN2 _ _ _⟩

set_option maxRecDepth 100000 in
set_option maxHeartbeats 1000000 in
theorem head_big (w : World) (a : Option Addr) (n c : Nat) (v u : Nat) (hu : u < 4294967296) (v4 : Value) (h4 : w.cell? ⟨3, 0, none⟩ = some v4) (_hb : ¬ u / 65536 < 8) (hb2 : ¬ u / 65536 % 4 ≠ 0) (hb3 : 4096 < u / 65536)
    (H : Calls Tryd.prog 22 #[.slice a n c, .int .i64 0] w fun e w' => e = .returned (.tuple #[.int .u32 v, .nilIface]) ∧ ∃ q, w' = w.drewN q)
    (H2 : ∀ q, Calls Tryd.prog 22 #[.slice a n c, .int .i64 4] (w.drewN q) fun e w' => e = .returned (.tuple #[.int .u32 u, .nilIface]) ∧ ∃ q, w' = w.drewN q) :
    Calls Tryd.prog 17 #[.slice a n c] w fun e w' => e = .returned (.tuple #[.int .i64 0, .int .i64 0, .int .i64 0, v4]) ∧ ∃ q, w' = w.drewN q := by
  have H' : Hid (Calls Tryd.prog 22 #[.slice a n c, .int .i64 0] w fun e w' => e = .returned (.tuple #[.int .u32 v, .nilIface]) ∧ ∃ q, w' = w.drewN q) := H
  have H2' : Hid (∀ q, Calls Tryd.prog 22 #[.slice a n c, .int .i64 4] (w.drewN q) fun e w' => e = .returned (.tuple #[.int .u32 u, .nilIface]) ∧ ∃ q, w' = w.drewN q) := H2
  clear H H2
  have e1 : decide ((u : Int) / 65536 < 8) = false := decide_eq_false (by omega)
  have e2 : ((u : Int) / 65536 % 4 != 0) = false := by rw [bne_eq_false_iff_eq]; omega
  have e3 : decide ((4096 : Int) < (u : Int) / 65536) = true := decide_eq_true (by omega)
  clear _hb hb2 hb3
  go_enter Tryd.func17, Tryd.ntmps17
  go_wp2_with fail
  refine H'.out.mono ?_
  rintro e w2 ⟨rfl, q, rfl⟩
  go_wp2_with fail
  refine (H2'.out q).mono ?_
  rintro e w3 ⟨rfl, q2, rfl⟩
  clear H' H2'
  go_wp2
  go_quiet (fail)
  go_wp2
  (try simp only [Exit.inBlock, Exit.then])
  refine bodyPost_ret (results_tmp4 rfl _ _ _) rfl ?_
  exact ⟨rfl, drewN2 _ _ _⟩

set_option maxRecDepth 100000 in
set_option maxHeartbeats 1000000 in
theorem head_ok (w : World) (a : Option Addr) (n c : Nat) (v u : Nat) (hv : v < 4294967296) (hu : u < 4294967296) (hb : ¬ u / 65536 < 8) (hb2 : ¬ u / 65536 % 4 ≠ 0) (hb3 : ¬ 4096 < u / 65536)
    (H : Calls Tryd.prog 22 #[.slice a n c, .int .i64 0] w fun e w' => e = .returned (.tuple #[.int .u32 v, .nilIface]) ∧ ∃ q, w' = w.drewN q)
    (H2 : ∀ q, Calls Tryd.prog 22 #[.slice a n c, .int .i64 4] (w.drewN q) fun e w' => e = .returned (.tuple #[.int .u32 u, .nilIface]) ∧ ∃ q, w' = w.drewN q) :
    Calls Tryd.prog 17 #[.slice a n c] w fun e w' => e = .returned (.tuple #[.int .i64 v, .int .i64 (u % 65536 : Nat), .int .i64 (u / 65536 : Nat), .nilIface]) ∧ ∃ q, w' = w.drewN q := by
  have H' : Hid (Calls Tryd.prog 22 #[.slice a n c, .int .i64 0] w fun e w' => e = .returned (.tuple #[.int .u32 v, .nilIface]) ∧ ∃ q, w' = w.drewN q) := H
  have H2' : Hid (∀ q, Calls Tryd.prog 22 #[.slice a n c, .int .i64 4] (w.drewN q) fun e w' => e = .returned (.tuple #[.int .u32 u, .nilIface]) ∧ ∃ q, w' = w.drewN q) := H2
  clear H H2
  have e1 : decide ((u : Int) / 65536 < 8) = false := decide_eq_false (by omega)
  have e2 : ((u : Int) / 65536 % 4 != 0) = false := by rw [bne_eq_false_iff_eq]; omega
  have e3 : decide ((4096 : Int) < (u : Int) / 65536) = false := decide_eq_false (by omega)
  have hA : bits BinOp.and IntKind.u32 (u : Int) 65535 = ((u % 65536 : Nat) : Int) := and_low u hu
  clear hb hb2 hb3
  go_enter Tryd.func17, Tryd.ntmps17
  go_wp2_with fail
  refine H'.out.mono ?_
  rintro e w2 ⟨rfl, q, rfl⟩
  go_wp2_with fail
  refine (H2'.out q).mono ?_
  rintro e w3 ⟨rfl, q2, rfl⟩
  clear H' H2'
  go_wp2
  (try simp only [Exit.inBlock, Exit.then])
  refine bodyPost_ret (results_tmp4 rfl _ _ _) rfl ?_
  exact ⟨ret4 (by omega) (by omega), _, rfl⟩

theorem head_any (w : World) (a : Option Addr) (n c : Nat) (l : List UInt8) (hr : Rd w a n c l) (hn : n ≤ 1152921504606846976) (es : List Addr) (hE : E4 w es) :
    Calls Tryd.prog 17 #[.slice a n c] w fun e w' => e = .returned (.tuple #[.int .i64 (hdO l), .int .i64 (hdP l), .int .i64 (hdS l), erv es (hdE l)]) ∧ ∃ q, w' = w.drewN q := by
  have hl := hr.len
  have H1 := get_any w a n c l hr hn es hE 0
  have H2 : ∀ q, Calls Tryd.prog 22 #[.slice a n c, .int .i64 4] (w.drewN q) fun e w' => e = .returned (.tuple #[.int .u32 (getV l 4), erv es (getE l 4)]) ∧ ∃ q, w' = w.drewN q := fun q => by
    have hb : Below w.heap.size w (w.drewN q) := below_drewN (Below.refl _ _) q
    refine (get_any (w.drewN q) a n c l (hr.below hb (rd_low hr)) hn es (hE.below hb) 4).mono ?_
    rintro e w' ⟨rfl, q', rfl⟩
    exact ⟨rfl, drewN2 _ _ _⟩
  by_cases h8 : l.length < 8
  · have e0 : hdE l = 2 := by rw [hdE, if_pos h8]
    have e1 : hdO l = 0 := by rw [hdO, e0]; rfl
    have e2 : hdP l = 0 := by rw [hdP, e0]; rfl
    have e3 : hdS l = 0 := by rw [hdS, e0]; rfl
    rw [e0, e1, e2, e3]
    by_cases h4 : l.length < 4
    · have g : getE l 0 = 2 := getE_short (l := l) (k := 0) (by omega) (by omega)
      rw [g, getV_err (by rw [g]; decide)] at H1
      exact head_short1 w a n c _ H1
    · have g : getE l 0 = 0 := getE_ok (l := l) (k := 0) (by omega)
      have g4 : getE l 4 = 2 := getE_short (l := l) (k := 4) (by omega) (by omega)
      rw [g] at H1
      rw [g4, getV_err (by rw [g4]; decide)] at H2
      exact head_short2 w a n c _ _ H1 H2
  · have g : getE l 0 = 0 := getE_ok (l := l) (k := 0) (by omega)
    have gv : getV l 0 = num4 l 0 := getV_ok (l := l) (k := 0) (by omega)
    have g4 : getE l 4 = 0 := getE_ok (l := l) (k := 4) (by omega)
    have gv4 : getV l 4 = num4 l 4 := getV_ok (l := l) (k := 4) (by omega)
    rw [g, gv] at H1
    rw [g4, gv4] at H2
    have hlt := num4_lt l 4
    by_cases hb : hdZ l < 8 ∨ hdZ l % 4 ≠ 0
    · have e0 : hdE l = 3 := by rw [hdE, if_neg h8, if_pos hb]
      have e1 : hdO l = 0 := by rw [hdO, e0]; rfl
      have e2 : hdP l = 0 := by rw [hdP, e0]; rfl
      have e3 : hdS l = 0 := by rw [hdS, e0]; rfl
      rw [e0, e1, e2, e3]
      by_cases hb1 : num4 l 4 / 65536 < 8
      · exact head_bad1 w a n c _ _ hlt _ hE.bytes hb1 H1 H2
      · exact head_bad2 w a n c _ _ hlt _ hE.bytes hb1 (hb.resolve_left hb1) H1 H2
    · have hb1 : ¬ num4 l 4 / 65536 < 8 := fun h => hb (.inl h)
      have hb2 : ¬ num4 l 4 / 65536 % 4 ≠ 0 := fun h => hb (.inr h)
      by_cases hg : 4096 < hdZ l
      · have e0 : hdE l = 4 := by rw [hdE, if_neg h8, if_neg hb, if_pos hg]
        have e1 : hdO l = 0 := by rw [hdO, e0]; rfl
        have e2 : hdP l = 0 := by rw [hdP, e0]; rfl
        have e3 : hdS l = 0 := by rw [hdS, e0]; rfl
        rw [e0, e1, e2, e3]
        exact head_big w a n c _ _ hlt _ hE.big hb1 hb2 hg H1 H2
      · have e0 : hdE l = 0 := by rw [hdE, if_neg h8, if_neg hb, if_neg hg]
        have e1 : hdO l = num4 l 0 := by rw [hdO, if_pos e0]
        have e2 : hdP l = num4 l 4 % 65536 := by rw [hdP, if_pos e0]
        have e3 : hdS l = num4 l 4 / 65536 := by rw [hdS, if_pos e0]; rfl
        rw [e0, e1, e2, e3]
        exact head_ok w a n c _ _ (num4_lt l 0) hlt hb1 hb2 hg H1 H2

theorem ret4' {a a' : Int} {b b' c c' : Int} {x : Value} (h0 : a = a') (h : b = b') (h' : c = c') : Ending.returned (.tuple #[.int .i64 a, .int .i64 b, .int .i64 c, x]) = .returned (.tuple #[.int .i64 a', .int .i64 b', .int .i64 c', x]) := by rw [h0, h, h']

set_option maxRecDepth 100000 in
theorem rhead_short (w : World) (a : Option Addr) (n c : Nat) (hn : n < 8) :
    Calls Tryd.prog 18 #[.slice a n c] w fun e w' => e = .returned (.tuple #[.int .i64 0, .int .i64 0, .int .i64 0, .int .i64 2]) ∧ ∃ q, w' = w.drewN q := by
  have e1 : decide ((n : Int) < 8) = true := decide_eq_true (by omega)
  go_enter Tryd.func18, Tryd.ntmps18
  go_wp2
  (try simp only [Exit.inBlock, Exit.then])
  refine bodyPost_ret (results_tmp4 rfl _ _ _) rfl ?_
  exact ⟨rfl, 0, rfl⟩

set_option maxRecDepth 100000 in
set_option maxHeartbeats 1000000 in
theorem rhead_long (w : World) (a : Option Addr) (n c : Nat) (hn : ¬ n < 8) (hn2 : n ≤ 1152921504606846976) (v u : Nat) (hv : v < 4294967296) (hu : u < 4294967296) (E : Nat) (R0 R1 R2 : Nat)
    (hE : (u / 65536 < 8 ∨ u / 65536 % 4 ≠ 0) ∧ E = 3 ∧ R0 = 0 ∧ R1 = 0 ∧ R2 = 0 ∨ ¬ (u / 65536 < 8 ∨ u / 65536 % 4 ≠ 0) ∧ 4096 < u / 65536 ∧ E = 4 ∧ R0 = 0 ∧ R1 = 0 ∧ R2 = 0 ∨ ¬ (u / 65536 < 8 ∨ u / 65536 % 4 ≠ 0) ∧ ¬ 4096 < u / 65536 ∧ E = 0 ∧ R0 = v ∧ R1 = u % 65536 ∧ R2 = u / 65536)
    (H : Calls Tryd.prog 23 #[.slice a n c, .int .i64 0] w fun e w' => e = .returned (.tuple #[.int .u32 v, .int .i64 0]) ∧ ∃ q, w' = w.drewN q)
    (H2 : ∀ q, Calls Tryd.prog 23 #[.slice a n c, .int .i64 4] (w.drewN q) fun e w' => e = .returned (.tuple #[.int .u32 u, .int .i64 0]) ∧ ∃ q, w' = w.drewN q) :
    Calls Tryd.prog 18 #[.slice a n c] w fun e w' => e = .returned (.tuple #[.int .i64 R0, .int .i64 R1, .int .i64 R2, .int .i64 E]) ∧ ∃ q, w' = w.drewN q := by
  have H' : Hid (Calls Tryd.prog 23 #[.slice a n c, .int .i64 0] w fun e w' => e = .returned (.tuple #[.int .u32 v, .int .i64 0]) ∧ ∃ q, w' = w.drewN q) := H
  have H2' : Hid (∀ q, Calls Tryd.prog 23 #[.slice a n c, .int .i64 4] (w.drewN q) fun e w' => e = .returned (.tuple #[.int .u32 u, .int .i64 0]) ∧ ∃ q, w' = w.drewN q) := H2
  have e0 : decide ((n : Int) < 8) = false := decide_eq_false (by omega)
  have hA : bits BinOp.and IntKind.u32 (u : Int) 65535 = ((u % 65536 : Nat) : Int) := and_low u hu
  clear H H2 hn
  by_cases h8 : u / 65536 < 8
  · have e1 : decide ((u : Int) / 65536 < 8) = true := decide_eq_true (by omega)
    obtain ⟨rfl, rfl, rfl, rfl⟩ : E = 3 ∧ R0 = 0 ∧ R1 = 0 ∧ R2 = 0 := by rcases hE with h | h | h <;> omega
    clear hE h8
    go_enter Tryd.func18, Tryd.ntmps18
    go_wp2_with fail
    refine H'.out.mono ?_
    rintro e w2 ⟨rfl, q, rfl⟩
    go_wp2_with fail
    refine (H2'.out q).mono ?_
    rintro e w3 ⟨rfl, q2, rfl⟩
    go_wp2
    (try simp only [Exit.inBlock, Exit.then])
    refine bodyPost_ret (results_tmp4 rfl _ _ _) rfl ?_
    exact ⟨rfl, _, rfl⟩
  have e1 : decide ((u : Int) / 65536 < 8) = false := decide_eq_false (by omega)
  by_cases h4 : u / 65536 % 4 ≠ 0
  · have e2 : ((u : Int) / 65536 % 4 != 0) = true := by rw [bne_iff_ne]; omega
    obtain ⟨rfl, rfl, rfl, rfl⟩ : E = 3 ∧ R0 = 0 ∧ R1 = 0 ∧ R2 = 0 := by rcases hE with h | h | h <;> omega
    clear hE h8 h4
    go_enter Tryd.func18, Tryd.ntmps18
    go_wp2_with fail
    refine H'.out.mono ?_
    rintro e w2 ⟨rfl, q, rfl⟩
    go_wp2_with fail
    refine (H2'.out q).mono ?_
    rintro e w3 ⟨rfl, q2, rfl⟩
    go_wp2
    (try simp only [Exit.inBlock, Exit.then])
    refine bodyPost_ret (results_tmp4 rfl _ _ _) rfl ?_
    exact ⟨rfl, _, rfl⟩
  have e2 : ((u : Int) / 65536 % 4 != 0) = false := by rw [bne_eq_false_iff_eq]; omega
  by_cases hg : 4096 < u / 65536
  · have e3 : decide ((4096 : Int) < (u : Int) / 65536) = true := decide_eq_true (by omega)
    obtain ⟨rfl, rfl, rfl, rfl⟩ : E = 4 ∧ R0 = 0 ∧ R1 = 0 ∧ R2 = 0 := by rcases hE with h | h | h <;> omega
    clear hE h8 h4 hg
    go_enter Tryd.func18, Tryd.ntmps18
    go_wp2_with fail
    refine H'.out.mono ?_
    rintro e w2 ⟨rfl, q, rfl⟩
    go_wp2_with fail
    refine (H2'.out q).mono ?_
    rintro e w3 ⟨rfl, q2, rfl⟩
    go_wp2
    (try simp only [Exit.inBlock, Exit.then])
    refine bodyPost_ret (results_tmp4 rfl _ _ _) rfl ?_
    exact ⟨rfl, _, rfl⟩
  · have e3 : decide ((4096 : Int) < (u : Int) / 65536) = false := decide_eq_false (by omega)
    obtain ⟨rfl, rfl, rfl, rfl⟩ : E = 0 ∧ R0 = v ∧ R1 = u % 65536 ∧ R2 = u / 65536 := by rcases hE with h | h | h <;> omega
    clear hE h8 h4 hg
    go_enter Tryd.func18, Tryd.ntmps18
    go_wp2_with fail
    refine H'.out.mono ?_
    rintro e w2 ⟨rfl, q, rfl⟩
    go_wp2_with fail
    refine (H2'.out q).mono ?_
    rintro e w3 ⟨rfl, q2, rfl⟩
    go_wp2
    (try simp only [Exit.inBlock, Exit.then])
    refine bodyPost_ret (results_tmp4 rfl _ _ _) rfl ?_
    exact ⟨ret4' (by omega) (by omega) (by omega), _, rfl⟩

theorem rhead_any (w : World) (a : Option Addr) (n c : Nat) (l : List UInt8) (hr : Rd w a n c l) (hn : n ≤ 1152921504606846976) :
    Calls Tryd.prog 18 #[.slice a n c] w fun e w' => e = .returned (.tuple #[.int .i64 (hdO l), .int .i64 (hdP l), .int .i64 (hdS l), .int .i64 (hdE l)]) ∧ ∃ q, w' = w.drewN q := by
  have hl := hr.len
  have H1 := rGet_any w a n c l hr hn 0
  have H2 : ∀ q, Calls Tryd.prog 23 #[.slice a n c, .int .i64 4] (w.drewN q) fun e w' => e = .returned (.tuple #[.int .u32 (getV l 4), .int .i64 (getE l 4)]) ∧ ∃ q, w' = w.drewN q := fun q => by
    have hb : Below w.heap.size w (w.drewN q) := below_drewN (Below.refl _ _) q
    refine (rGet_any (w.drewN q) a n c l (hr.below hb (rd_low hr)) hn 4).mono ?_
    rintro e w' ⟨rfl, q', rfl⟩
    exact ⟨rfl, drewN2 _ _ _⟩
  by_cases h8 : l.length < 8
  · have e0 : hdE l = 2 := by rw [hdE, if_pos h8]
    have e1 : hdO l = 0 := by rw [hdO, e0]; rfl
    have e2 : hdP l = 0 := by rw [hdP, e0]; rfl
    have e3 : hdS l = 0 := by rw [hdS, e0]; rfl
    rw [e0, e1, e2, e3]
    exact rhead_short w a n c (by omega)
  · have g : getE l 0 = 0 := getE_ok (l := l) (k := 0) (by omega)
    have gv : getV l 0 = num4 l 0 := getV_ok (l := l) (k := 0) (by omega)
    have g4 : getE l 4 = 0 := getE_ok (l := l) (k := 4) (by omega)
    have gv4 : getV l 4 = num4 l 4 := getV_ok (l := l) (k := 4) (by omega)
    rw [g, gv] at H1
    rw [g4, gv4] at H2
    refine rhead_long w a n c (by omega) hn _ _ (num4_lt l 0) (num4_lt l 4) _ _ _ _ ?_ H1 H2
    by_cases hb : hdZ l < 8 ∨ hdZ l % 4 ≠ 0
    · have e0 : hdE l = 3 := by rw [hdE, if_neg h8, if_pos hb]
      exact .inl ⟨hb, e0, by rw [hdO, e0]; rfl, by rw [hdP, e0]; rfl, by rw [hdS, e0]; rfl⟩
    · by_cases hg : 4096 < hdZ l
      · have e0 : hdE l = 4 := by rw [hdE, if_neg h8, if_neg hb, if_pos hg]
        exact .inr (.inl ⟨hb, hg, e0, by rw [hdO, e0]; rfl, by rw [hdP, e0]; rfl, by rw [hdS, e0]; rfl⟩)
      · have e0 : hdE l = 0 := by rw [hdE, if_neg h8, if_neg hb, if_neg hg]
        exact .inr (.inr ⟨hb, hg, e0, by rw [hdO, if_pos e0], by rw [hdP, if_pos e0], by rw [hdS, if_pos e0]; rfl⟩)

/-- A number as a place. -/
def plc (v : Int) (n : Nat) : Nat := (v % n).toNat

theorem plc_lt (v : Int) (n : Nat) (h : 0 < n) : plc v n < n := by
  have h1 := Int.emod_nonneg v (b := (n : Int)) (by omega)
  have h2 := Int.emod_lt_of_pos v (b := (n : Int)) (by omega)
  unfold plc
  omega

theorem place_any (v : Int) (n : Nat) (_hv : -9223372036854775808 ≤ v ∧ v ≤ 9223372036854775807) (hn : 0 < n) (hn2 : n ≤ 4294967296) (w : World) :
    Calls Tryd.prog 15 #[.int .i64 v, .int .i64 n] w fun e w' => e = .returned (.int .i64 (plc v n : Nat)) ∧ w' = w := by
  have h0 : ¬ ((n : Int) = 0) := by omega
  go_enter Tryd.func15, Tryd.ntmps15
  have hb := Int.emod_nonneg v (b := (n : Int)) (by omega)
  have hb2 := Int.emod_lt_of_pos v (b := (n : Int)) (by omega)
  have HP : Hid (((plc v n : Nat) : Int) = v % n) := by simp only [Hid]; unfold plc; omega
  have HT : Hid (v.tmod n = if 0 ≤ v ∨ (n : Int) ∣ v then v % n else v % n - n) := by
    simp only [Hid]
    rw [Int.tmod_eq_emod]
    split <;> simp
  have ht : -9223372036854775808 ≤ v.tmod n + n ∧ v.tmod n + n ≤ 9223372036854775807 := by rw [HT.out]; split <;> omega
  clear hb hb2
  go_wp2
  all_goals
    go_ret
    refine ⟨ret_int ?_, rfl⟩
    have hb := Int.emod_nonneg v (b := (n : Int)) (by omega)
    have hb2 := Int.emod_lt_of_pos v (b := (n : Int)) (by omega)
    have h1 := HT.out
    rw [HP.out]
    split at h1 <;> omega

theorem step_append_own_src {P : Program} {ops : Array Oper} {o : Oper} {a : Act} {w : World} {K : Act → World → Prop} {Q : Exit → Act → World → Prop} {E : Prop}
    (hg : o.guard = none) (s x : Operand) (t tx : TypeId) (hop : o.op = .call { callee := .builtin .append, args := #[s, x], argTypes := #[t, tx] })
    (base : Nat) (e : TypeId) (i : TypeInfo) (z : Value) (size bytes : Nat) (ht : P.underlying t = some (.slice e)) (hi : P.info? e = some i) (hz : i.zero = some z)
    (hsize : i.size = size) (hby : i.bytes = bytes) (hzs : z.cells.size = size)
    (v : Value) (n : Nat) (xs : List Value) (hs : a.eval s = v) (hown : w.ownsRow base e size v n xs)
    (xv : Value) (m : Nat) (news : List Value) (hx : a.eval x = xv) (hsrc : Src P size tx xv m news w)
    (h63 : n + m ≤ maxLen) (hbytes : ∀ old, old < n + m → Builtin.nextslicecap (n + m) old * bytes ≤ 281474976710656) (hbase : base ≤ w.heap.size)
    (h : ∀ v' w', w'.ownsRow base e size v' (n + m) (xs ++ news) → w.grownBy w' v.ownBlock → K (a.put o.dst v') w') :
    if Region.wanted o (yielded ops a.tmps) = true then Oper.wp P o a w K Q else E := by
  have hw : Region.wanted o (yielded ops a.tmps) = true := by simp [Region.wanted, hg]
  rw [if_pos hw]
  obtain ⟨v', w', hr, h2, h3⟩ := run_append_own_src (P := P) w base t tx o.type e i z size bytes ht hi hz hsize hby hzs v n xs hown xv m news hsrc h63 hbytes hbase
  unfold Oper.wp
  simp [execOp, hop, resolve, invoke, builtin, hs, hx, hr, Result.andThen]
  exact h v' w' h2 h3

end Go.Proofs.YtfbebifbfpkdaaaDoor
