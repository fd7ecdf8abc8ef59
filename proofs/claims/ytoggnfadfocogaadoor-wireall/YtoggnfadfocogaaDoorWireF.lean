/- tableaulaw04.awake; the contract of the program's wire.Head. -/
import Derived.Test.YtoggnfadfocogaaDoorWireE
namespace Go.Proofs.YtoggnfadfocogaaDoor
open Go Go.RowKit

theorem awake4_bytes : putB 1 0 [⟨110, 2, ⟨#[]⟩⟩] = [1, 0, 0, 0, 0, 0, 12, 0, 2, 0, 0, 0] := by decide
theorem awake4_E : putE 1 0 [⟨110, 2, ⟨#[]⟩⟩] [110] = 0 := by decide

set_option maxRecDepth 100000 in
theorem awake4_two (w : World) (es : List Addr) (hA : w.cell? ⟨2, 0, none⟩ = some (erv es 1)) (hB : w.cell? ⟨0, 0, none⟩ = some (erv es 4)) :
    Calls Tryd.prog 10 #[] w fun e w' => e = .returned (.bool true) ∧ Below w.heap.size w w' := by
  have H : Hid (Calls Tryd.prog 11 #[.agg #[.int .i64 1, .int .i64 0, .slice (some ⟨w.heap.size, 0, none⟩) 1 1], .string ⟨#[110]⟩] (w.alloc (.cells #[.int .u8 110, .int .i64 2, .string ⟨#[]⟩] 60)) fun e w' => ∃ a n c, e = .returned (.tuple #[.slice a n c, .nilIface]) ∧ Rd w' a n c [1, 0, 0, 0, 0, 0, 12, 0, 2, 0, 0, 0] ∧ Below w.heap.size w w') := by
    have hb : Below w.heap.size w (w.alloc (.cells #[.int .u8 110, .int .i64 2, .string ⟨#[]⟩] 60)) := (Below.refl _ _).alloc (Nat.le_refl _) _
    have hr : RdA (w.alloc (.cells #[.int .u8 110, .int .i64 2, .string ⟨#[]⟩] 60)) (some ⟨w.heap.size, 0, none⟩) 1 1 [⟨110, 2, ⟨#[]⟩⟩] := by
      refine ⟨rfl, Nat.le_refl _, by decide, (fun h => by cases h), fun x hx j u hu => ?_, fun x hx => ?_⟩
      · cases hx
        match j, hu with
        | 0, hu => cases hu; simp [Addr.add]
        | 1, hu => cases hu; simp [Addr.add]
        | 2, hu => cases hu; simp [Addr.add]
        | j + 3, hu => simp [acs, ac] at hu
      · simp only [List.mem_cons, List.not_mem_nil, or_false] at hx
        subst hx
        exact ⟨by decide, by decide, by decide, by decide⟩
    refine (Put_two 1 0 _ 1 1 _ ⟨#[110]⟩ _ hr (fun x hx => by simp only [List.mem_cons, List.not_mem_nil, or_false] at hx; subst hx; exact (by decide : (ByteArray.mk #[]).size ≤ 140737488355328)) (by decide) es (by rw [hb.cell (World.block_lt_of_cell? w _ hA)]; exact hA) (by rw [hb.cell (World.block_lt_of_cell? w _ hB)]; exact hB)).mono ?_
    rintro e w' ⟨v, r, rfl, h1, h2, h3⟩
    have e0 : putE 1 0 [⟨110, 2, ⟨#[]⟩⟩] (ByteArray.mk #[110]).data.toList = 0 := awake4_E
    rw [e0] at h1 h2
    rw [h1.nil]
    have ho := h2.1 rfl
    rw [awake4_bytes] at ho
    obtain ⟨a, c, rfl, hr, _⟩ := rd_of_owns ho
    exact ⟨a, _, c, rfl, hr, hb.trans (h3.mono hb.size)⟩
  clear hA hB
  go_enter Tryd.func10, Tryd.ntmps10
  go_wp2_with fail
  refine H.out.mono ?_
  rintro e w1 ⟨a, n, c, rfl, hr, hb1⟩
  have hcv := hr.conv 27 9 5 Tryd.underlying27 Tryd.underlying5 Tryd.underlying9
  clear H hr
  go_wp2
  go_ret
  exact ⟨rfl, hb1⟩

theorem awake4_any (w : World) (es : List Addr) (hE : E4 w es) :
    Calls Tryd.prog 10 #[] w fun e w' => e = .returned (.bool true) ∧ Below w.heap.size w w' := awake4_two w es hE.arg hE.big

/-! Head's answer. -/
def hdZ (l : List UInt8) : Nat := num4 l 4 / 65536
def hdE (l : List UInt8) : Nat := if l.length < 8 then 2 else if hdZ l < 8 ∨ hdZ l % 4 ≠ 0 then 3 else if 4096 < hdZ l then 4 else 0
def hdO (l : List UInt8) : Nat := if hdE l = 0 then num4 l 0 else 0
def hdP (l : List UInt8) : Nat := if hdE l = 0 then num4 l 4 % 65536 else 0
def hdS (l : List UInt8) : Nat := if hdE l = 0 then hdZ l else 0

theorem num4_lt (l : List UInt8) (i : Nat) : num4 l i < 4294967296 := by
  have h : ∀ x : UInt8, x.toNat < 256 := fun x => x.toNat_lt
  have h0 := h (l.getD i 0)
  have h1 := h (l.getD (i + 1) 0)
  have h2 := h (l.getD (i + 2) 0)
  have h3 := h (l.getD (i + 3) 0)
  unfold num4
  omega

theorem results_tmp4 {fn : Func} {t u v x : Tmp} (h : fn.results = #[.tmp t, .tmp u, .tmp v, .tmp x]) (tmps : Array Value) (P : Program) (w : World) :
    (results fn tmps).run P w = .ok (.tuple #[tmps.getD t undef, tmps.getD u undef, tmps.getD v undef, tmps.getD x undef]) w := by
  simp [results, h]

set_option maxRecDepth 100000 in
theorem head_short1 (w : World) (a : Option Addr) (n c : Nat) (x : Addr)
    (H : Calls Tryd.prog 32 #[.slice a n c, .int .i64 0] w fun e w' => e = .returned (.tuple #[.int .u32 0, .iface 106 (.pointer (some x))]) ∧ ∃ q, w' = w.drewN q) :
    Calls Tryd.prog 16 #[.slice a n c] w fun e w' => e = .returned (.tuple #[.int .i64 0, .int .i64 0, .int .i64 0, .iface 106 (.pointer (some x))]) ∧ ∃ q, w' = w.drewN q := by
  have H' : Hid (Calls Tryd.prog 32 #[.slice a n c, .int .i64 0] w fun e w' => e = .returned (.tuple #[.int .u32 0, .iface 106 (.pointer (some x))]) ∧ ∃ q, w' = w.drewN q) := H
  clear H
  go_enter Tryd.func16, Tryd.ntmps16
  go_wp2_with fail
  refine H'.out.mono ?_
  rintro e w2 ⟨rfl, q, rfl⟩
  go_wp2
  (try simp only [Exit.inBlock, Exit.then])
  refine bodyPost_ret (results_tmp4 rfl _ _ _) rfl ?_
  exact ⟨rfl, _, rfl⟩

set_option maxRecDepth 100000 in
theorem head_short2 (w : World) (a : Option Addr) (n c : Nat) (x : Addr) (v : Nat)
    (H : Calls Tryd.prog 32 #[.slice a n c, .int .i64 0] w fun e w' => e = .returned (.tuple #[.int .u32 v, .nilIface]) ∧ ∃ q, w' = w.drewN q)
    (H2 : ∀ q, Calls Tryd.prog 32 #[.slice a n c, .int .i64 4] (w.drewN q) fun e w' => e = .returned (.tuple #[.int .u32 0, .iface 106 (.pointer (some x))]) ∧ ∃ q, w' = w.drewN q) :
    Calls Tryd.prog 16 #[.slice a n c] w fun e w' => e = .returned (.tuple #[.int .i64 0, .int .i64 0, .int .i64 0, .iface 106 (.pointer (some x))]) ∧ ∃ q, w' = w.drewN q := by
  have H' : Hid (Calls Tryd.prog 32 #[.slice a n c, .int .i64 0] w fun e w' => e = .returned (.tuple #[.int .u32 v, .nilIface]) ∧ ∃ q, w' = w.drewN q) := H
  have H2' : Hid (∀ q, Calls Tryd.prog 32 #[.slice a n c, .int .i64 4] (w.drewN q) fun e w' => e = .returned (.tuple #[.int .u32 0, .iface 106 (.pointer (some x))]) ∧ ∃ q, w' = w.drewN q) := H2
  clear H H2
  go_enter Tryd.func16, Tryd.ntmps16
  go_wp2_with fail
  refine H'.out.mono ?_
  rintro e w2 ⟨rfl, q, rfl⟩
  go_wp2_with fail
  refine (H2'.out q).mono ?_
  rintro e w3 ⟨rfl, q2, rfl⟩
  go_wp2
  (try simp only [Exit.inBlock, Exit.then])
  refine bodyPost_ret (results_tmp4 rfl _ _ _) rfl ?_
  exact ⟨rfl, _, rfl⟩

theorem ret4 {a : Int} {b b' c c' : Int} {x : Value} (h : b = b') (h' : c = c') : Ending.returned (.tuple #[.int .i64 a, .int .i64 b, .int .i64 c, x]) = .returned (.tuple #[.int .i64 a, .int .i64 b', .int .i64 c', x]) := by rw [h, h']

theorem rd_low {w : World} {a : Option Addr} {n c : Nat} {l : List UInt8} (h : Rd w a n c l) : ∀ x, a = some x → 0 < l.length → x.block < w.heap.size := fun x hx hl => by
  have hl' := h.len
  obtain ⟨b, off, rfl, hb, _⟩ := h.plain (by omega)
  cases hx
  exact hb

theorem and_low (v : Nat) (h : v < 4294967296) : bits BinOp.and IntKind.u32 (v : Int) 65535 = ((v % 65536 : Nat) : Int) := by
  rw [show (65535 : Int) = ((65535 : Nat) : Int) from rfl, u32_and_nat _ _ h (by decide), Nat.and_two_pow_sub_one_eq_mod v 16]

set_option maxRecDepth 100000 in
set_option maxHeartbeats 1000000 in
theorem head_bad1 (w : World) (a : Option Addr) (n c : Nat) (v u : Nat) (hu : u < 4294967296) (v3 : Value) (h3 : w.cell? ⟨1, 0, none⟩ = some v3) (hb : u / 65536 < 8)
    (H : Calls Tryd.prog 32 #[.slice a n c, .int .i64 0] w fun e w' => e = .returned (.tuple #[.int .u32 v, .nilIface]) ∧ ∃ q, w' = w.drewN q)
    (H2 : ∀ q, Calls Tryd.prog 32 #[.slice a n c, .int .i64 4] (w.drewN q) fun e w' => e = .returned (.tuple #[.int .u32 u, .nilIface]) ∧ ∃ q, w' = w.drewN q) :
    Calls Tryd.prog 16 #[.slice a n c] w fun e w' => e = .returned (.tuple #[.int .i64 0, .int .i64 0, .int .i64 0, v3]) ∧ ∃ q, w' = w.drewN q := by
  have H' : Hid (Calls Tryd.prog 32 #[.slice a n c, .int .i64 0] w fun e w' => e = .returned (.tuple #[.int .u32 v, .nilIface]) ∧ ∃ q, w' = w.drewN q) := H
  have H2' : Hid (∀ q, Calls Tryd.prog 32 #[.slice a n c, .int .i64 4] (w.drewN q) fun e w' => e = .returned (.tuple #[.int .u32 u, .nilIface]) ∧ ∃ q, w' = w.drewN q) := H2
  clear H H2
  have e1 : decide ((u : Int) / 65536 < 8) = true := decide_eq_true (by omega)
  clear hb
  go_enter Tryd.func16, Tryd.ntmps16
  go_wp2_with fail
  refine H'.out.mono ?_
  rintro e w2 ⟨rfl, q, rfl⟩
  go_wp2_with fail
  refine (H2'.out q).mono ?_
  rintro e w3 ⟨rfl, q2, rfl⟩
  clear H' H2'
  go_wp2
  go_quiet (fail)
  go_wp2
  (try simp only [Exit.inBlock, Exit.then])
  refine bodyPost_ret (results_tmp4 rfl _ _ _) rfl ?_
  exact ⟨rfl, drewN2 _ _ _⟩

set_option maxRecDepth 100000 in
set_option maxHeartbeats 1000000 in
theorem head_bad2 (w : World) (a : Option Addr) (n c : Nat) (v u : Nat) (hu : u < 4294967296) (v3 : Value) (h3 : w.cell? ⟨1, 0, none⟩ = some v3) (hb : ¬ u / 65536 < 8) (hb2 : u / 65536 % 4 ≠ 0)
    (H : Calls Tryd.prog 32 #[.slice a n c, .int .i64 0] w fun e w' => e = .returned (.tuple #[.int .u32 v, .nilIface]) ∧ ∃ q, w' = w.drewN q)
    (H2 : ∀ q, Calls Tryd.prog 32 #[.slice a n c, .int .i64 4] (w.drewN q) fun e w' => e = .returned (.tuple #[.int .u32 u, .nilIface]) ∧ ∃ q, w' = w.drewN q) :
    Calls Tryd.prog 16 #[.slice a n c] w fun e w' => e = .returned (.tuple #[.int .i64 0, .int .i64 0, .int .i64 0, v3]) ∧ ∃ q, w' = w.drewN q := by
  have H' : Hid (Calls Tryd.prog 32 #[.slice a n c, .int .i64 0] w fun e w' => e = .returned (.tuple #[.int .u32 v, .nilIface]) ∧ ∃ q, w' = w.drewN q) := H
  have H2' : Hid (∀ q, Calls Tryd.prog 32 #[.slice a n c, .int .i64 4] (w.drewN q) fun e w' => e = .returned (.tuple #[.int .u32 u, .nilIface]) ∧ ∃ q, w' = w.drewN q) := H2
  clear H H2
  have e1 : decide ((u : Int) / 65536 < 8) = false := decide_eq_false (by omega)
  have e2 : ((u : Int) / 65536 % 4 != 0) = true := by rw [bne_iff_ne]; omega
  clear hb hb2
  go_enter Tryd.func16, Tryd.ntmps16
  go_wp2_with fail
  refine H'.out.mono ?_
  rintro e w2 ⟨rfl, q, rfl⟩
  go_wp2_with fail
  refine (H2'.out q).mono ?_
  rintro e w3 ⟨rfl, q2, rfl⟩
  clear H' H2'
  go_wp2
  go_quiet (fail)
  go_wp2
  (try simp only [Exit.inBlock, Exit.then])
  refine bodyPost_ret (results_tmp4 rfl _ _ _) rfl ?_
  exact ⟨rfl, drewN2 _ _ _⟩

set_option maxRecDepth 100000 in
set_option maxHeartbeats 1000000 in
theorem head_big (w : World) (a : Option Addr) (n c : Nat) (v u : Nat) (hu : u < 4294967296) (v4 : Value) (h4 : w.cell? ⟨0, 0, none⟩ = some v4) (_hb : ¬ u / 65536 < 8) (hb2 : ¬ u / 65536 % 4 ≠ 0) (hb3 : 4096 < u / 65536)
    (H : Calls Tryd.prog 32 #[.slice a n c, .int .i64 0] w fun e w' => e = .returned (.tuple #[.int .u32 v, .nilIface]) ∧ ∃ q, w' = w.drewN q)
    (H2 : ∀ q, Calls Tryd.prog 32 #[.slice a n c, .int .i64 4] (w.drewN q) fun e w' => e = .returned (.tuple #[.int .u32 u, .nilIface]) ∧ ∃ q, w' = w.drewN q) :
    Calls Tryd.prog 16 #[.slice a n c] w fun e w' => e = .returned (.tuple #[.int .i64 0, .int .i64 0, .int .i64 0, v4]) ∧ ∃ q, w' = w.drewN q := by
  have H' : Hid (Calls Tryd.prog 32 #[.slice a n c, .int .i64 0] w fun e w' => e = .returned (.tuple #[.int .u32 v, .nilIface]) ∧ ∃ q, w' = w.drewN q) := H
  have H2' : Hid (∀ q, Calls Tryd.prog 32 #[.slice a n c, .int .i64 4] (w.drewN q) fun e w' => e = .returned (.tuple #[.int .u32 u, .nilIface]) ∧ ∃ q, w' = w.drewN q) := H2
  clear H H2
  have e1 : decide ((u : Int) / 65536 < 8) = false := decide_eq_false (by omega)
  have e2 : ((u : Int) / 65536 % 4 != 0) = false := by rw [bne_eq_false_iff_eq]; omega
  have e3 : decide ((4096 : Int) < (u : Int) / 65536) = true := decide_eq_true (by omega)
  clear _hb hb2 hb3
  go_enter Tryd.func16, Tryd.ntmps16
  go_wp2_with fail
  refine H'.out.mono ?_
  rintro e w2 ⟨rfl, q, rfl⟩
  go_wp2_with fail
  refine (H2'.out q).mono ?_
  rintro e w3 ⟨rfl, q2, rfl⟩
  clear H' H2'
  go_wp2
  go_quiet (fail)
  go_wp2
  (try simp only [Exit.inBlock, Exit.then])
  refine bodyPost_ret (results_tmp4 rfl _ _ _) rfl ?_
  exact ⟨rfl, drewN2 _ _ _⟩

set_option maxRecDepth 100000 in
set_option maxHeartbeats 1000000 in
theorem head_ok (w : World) (a : Option Addr) (n c : Nat) (v u : Nat) (hv : v < 4294967296) (hu : u < 4294967296) (hb : ¬ u / 65536 < 8) (hb2 : ¬ u / 65536 % 4 ≠ 0) (hb3 : ¬ 4096 < u / 65536)
    (H : Calls Tryd.prog 32 #[.slice a n c, .int .i64 0] w fun e w' => e = .returned (.tuple #[.int .u32 v, .nilIface]) ∧ ∃ q, w' = w.drewN q)
    (H2 : ∀ q, Calls Tryd.prog 32 #[.slice a n c, .int .i64 4] (w.drewN q) fun e w' => e = .returned (.tuple #[.int .u32 u, .nilIface]) ∧ ∃ q, w' = w.drewN q) :
    Calls Tryd.prog 16 #[.slice a n c] w fun e w' => e = .returned (.tuple #[.int .i64 v, .int .i64 (u % 65536 : Nat), .int .i64 (u / 65536 : Nat), .nilIface]) ∧ ∃ q, w' = w.drewN q := by
  have H' : Hid (Calls Tryd.prog 32 #[.slice a n c, .int .i64 0] w fun e w' => e = .returned (.tuple #[.int .u32 v, .nilIface]) ∧ ∃ q, w' = w.drewN q) := H
  have H2' : Hid (∀ q, Calls Tryd.prog 32 #[.slice a n c, .int .i64 4] (w.drewN q) fun e w' => e = .returned (.tuple #[.int .u32 u, .nilIface]) ∧ ∃ q, w' = w.drewN q) := H2
  clear H H2
  have e1 : decide ((u : Int) / 65536 < 8) = false := decide_eq_false (by omega)
  have e2 : ((u : Int) / 65536 % 4 != 0) = false := by rw [bne_eq_false_iff_eq]; omega
  have e3 : decide ((4096 : Int) < (u : Int) / 65536) = false := decide_eq_false (by omega)
  have hA : bits BinOp.and IntKind.u32 (u : Int) 65535 = ((u % 65536 : Nat) : Int) := and_low u hu
  clear hb hb2 hb3
  go_enter Tryd.func16, Tryd.ntmps16
  go_wp2_with fail
  refine H'.out.mono ?_
  rintro e w2 ⟨rfl, q, rfl⟩
  go_wp2_with fail
  refine (H2'.out q).mono ?_
  rintro e w3 ⟨rfl, q2, rfl⟩
  clear H' H2'
  go_wp2
  (try simp only [Exit.inBlock, Exit.then])
  refine bodyPost_ret (results_tmp4 rfl _ _ _) rfl ?_
  exact ⟨ret4 (by omega) (by omega), _, rfl⟩

theorem head_any (w : World) (a : Option Addr) (n c : Nat) (l : List UInt8) (hr : Rd w a n c l) (hn : n ≤ 1152921504606846976) (es : List Addr) (hE : E4 w es) :
    Calls Tryd.prog 16 #[.slice a n c] w fun e w' => e = .returned (.tuple #[.int .i64 (hdO l), .int .i64 (hdP l), .int .i64 (hdS l), erv es (hdE l)]) ∧ ∃ q, w' = w.drewN q := by
  have hl := hr.len
  have H1 := get_any w a n c l hr hn es hE 0
  have H2 : ∀ q, Calls Tryd.prog 32 #[.slice a n c, .int .i64 4] (w.drewN q) fun e w' => e = .returned (.tuple #[.int .u32 (getV l 4), erv es (getE l 4)]) ∧ ∃ q, w' = w.drewN q := fun q => by
    have hb : Below w.heap.size w (w.drewN q) := below_drewN (Below.refl _ _) q
    refine (get_any (w.drewN q) a n c l (hr.below hb (rd_low hr)) hn es (hE.below hb) 4).mono ?_
    rintro e w' ⟨rfl, q', rfl⟩
    exact ⟨rfl, drewN2 _ _ _⟩
  by_cases h8 : l.length < 8
  · have e0 : hdE l = 2 := by rw [hdE, if_pos h8]
    have e1 : hdO l = 0 := by rw [hdO, e0]; rfl
    have e2 : hdP l = 0 := by rw [hdP, e0]; rfl
    have e3 : hdS l = 0 := by rw [hdS, e0]; rfl
    rw [e0, e1, e2, e3]
    by_cases h4 : l.length < 4
    · have g : getE l 0 = 2 := getE_short (l := l) (k := 0) (by omega) (by omega)
      rw [g, getV_err (by rw [g]; decide)] at H1
      exact head_short1 w a n c _ H1
    · have g : getE l 0 = 0 := getE_ok (l := l) (k := 0) (by omega)
      have g4 : getE l 4 = 2 := getE_short (l := l) (k := 4) (by omega) (by omega)
      rw [g] at H1
      rw [g4, getV_err (by rw [g4]; decide)] at H2
      exact head_short2 w a n c _ _ H1 H2
  · have g : getE l 0 = 0 := getE_ok (l := l) (k := 0) (by omega)
    have gv : getV l 0 = num4 l 0 := getV_ok (l := l) (k := 0) (by omega)
    have g4 : getE l 4 = 0 := getE_ok (l := l) (k := 4) (by omega)
    have gv4 : getV l 4 = num4 l 4 := getV_ok (l := l) (k := 4) (by omega)
    rw [g, gv] at H1
    rw [g4, gv4] at H2
    have hlt := num4_lt l 4
    by_cases hb : hdZ l < 8 ∨ hdZ l % 4 ≠ 0
    · have e0 : hdE l = 3 := by rw [hdE, if_neg h8, if_pos hb]
      have e1 : hdO l = 0 := by rw [hdO, e0]; rfl
      have e2 : hdP l = 0 := by rw [hdP, e0]; rfl
      have e3 : hdS l = 0 := by rw [hdS, e0]; rfl
      rw [e0, e1, e2, e3]
      by_cases hb1 : num4 l 4 / 65536 < 8
      · exact head_bad1 w a n c _ _ hlt _ hE.bytes hb1 H1 H2
      · exact head_bad2 w a n c _ _ hlt _ hE.bytes hb1 (hb.resolve_left hb1) H1 H2
    · have hb1 : ¬ num4 l 4 / 65536 < 8 := fun h => hb (.inl h)
      have hb2 : ¬ num4 l 4 / 65536 % 4 ≠ 0 := fun h => hb (.inr h)
      by_cases hg : 4096 < hdZ l
      · have e0 : hdE l = 4 := by rw [hdE, if_neg h8, if_neg hb, if_pos hg]
        have e1 : hdO l = 0 := by rw [hdO, e0]; rfl
        have e2 : hdP l = 0 := by rw [hdP, e0]; rfl
        have e3 : hdS l = 0 := by rw [hdS, e0]; rfl
        rw [e0, e1, e2, e3]
        exact head_big w a n c _ _ hlt _ hE.big hb1 hb2 hg H1 H2
      · have e0 : hdE l = 0 := by rw [hdE, if_neg h8, if_neg hb, if_neg hg]
        have e1 : hdO l = num4 l 0 := by rw [hdO, if_pos e0]
        have e2 : hdP l = num4 l 4 % 65536 := by rw [hdP, if_pos e0]
        have e3 : hdS l = num4 l 4 / 65536 := by rw [hdS, if_pos e0]; rfl
        rw [e0, e1, e2, e3]
        exact head_ok w a n c _ _ (num4_lt l 0) hlt hb1 hb2 hg H1 H2
end Go.Proofs.YtoggnfadfocogaaDoor
