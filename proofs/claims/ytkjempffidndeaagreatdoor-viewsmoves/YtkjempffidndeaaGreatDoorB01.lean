/- Lemmas that the proof leans on. -/
import Derived.Test.YtkjempffidndeaaGreatDoorB00
import Derived.Test.YtkjempffidndeaaGreatDoorChecked
import Derived.BigQuiet
import Derived.Lib.Builder
import Derived.Shelf.Abstract
namespace Go.Proofs.YtkjempffidndeaaGreatDoor
open Go Go.RowKit
set_option maxRecDepth 100000
set_option maxHeartbeats 1000000
section
theorem infoMP {P : Program} {e : TypeId} {z : Value} {n m : Nat} (h : (P.info? e).map (fun i => (i.zero, i.size, i.bytes)) = some (some z, n, m)) : ∃ i, P.info? e = some i ∧ i.zero = some z ∧ i.size = n ∧ i.bytes = m := by
 obtain ⟨i, hi, hz⟩ := Option.map_eq_some_iff.1 h
 simp only [Prod.mk.injEq] at hz
 exact ⟨i, hi, hz.1, hz.2.1, hz.2.2⟩
theorem fitsM {need b : Nat} (h : need ≤ 1000000000) (hb : b ≤ 32) : ∀ old, old < need → Builtin.nextslicecap need old * b ≤ 281474976710656 := fun old ho => by
 have h1 := nextslicecap_near ho
 have h2 : Builtin.nextslicecap need old * b ≤ Builtin.nextslicecap need old * 32 := Nat.mul_le_mul_left _ hb
 omega
def leq (x y : List Int) : Bool := decide (x = y)
def leqs (l m : List (List Int)) : Bool := decide (l = m)
theorem leqs_cons (x y : List Int) (l m : List (List Int)) : leqs (x :: l) (y :: m) = (leq x y && leqs l m) := by
 unfold leqs leq
 rw [Bool.eq_iff_iff]
 simp
theorem leqs_len {l m : List (List Int)} (h : l.length ≠ m.length) : leqs l m = false := by
 unfold leqs
 rw [decide_eq_false_iff_not]
 intro e
 exact h (by rw [e])
theorem leqs_same (l : List (List Int)) : leqs l l = true := decide_eq_true rfl
structure RdL (m : Nat) (w : World) (B : Nat) (L : List (List (List Int))) : Prop where
 each : ∀ (j : Nat) l, L[j]? = some l → ∃ a n c, w.cell? ⟨B, j, none⟩ = some (.slice a n c) ∧ RdM m w a n c l ∧ B < w.heap.size
theorem RdL.on {m : Nat} {w u : World} {B : Nat} {L : List (List (List Int))} (h : RdL m w B L) (hb : Below w.heap.size w u) : RdL m u B L :=
 ⟨fun j l hl => by
  obtain ⟨a, n, c, h1, h2, h3⟩ := h.each j l hl
  exact ⟨a, n, c, by rw [hb.cell h3]; exact h1, h2.on hb, Nat.lt_of_lt_of_le h3 hb.size⟩⟩
theorem flatten_take_snoc {L : List (List (List Int))} {j : Nat} {l : List (List Int)} (h : L[j]? = some l) : (L.take (j + 1)).flatten = (L.take j).flatten ++ l := by
 rw [List.take_add_one, h]
 simp
theorem flatten_take_le (L : List (List (List Int))) (j : Nat) : (L.take j).flatten.length ≤ L.flatten.length := by
 have : L.flatten = (L.take j).flatten ++ (L.drop j).flatten := by rw [← List.flatten_append, List.take_append_drop]
 rw [this, List.length_append]
 omega
theorem neqM4_guard (x y : Operand) (xs ys : Array Value) (w : World) : (eqGuard .neq 54 x y (.agg xs) (.agg ys)).run Tryz.prog w = .ok () w := run_eqGuard_agg w .neq 54 x y xs ys (by kernel_rfl)
theorem equalM4 (x0 x1 x2 x3 y0 y1 y2 y3 : Int) (w : World) : (Op.equalIn 10000 54 (.agg #[.int .i64 x0, .int .i64 x1, .int .i64 x2, .int .i64 x3]) (.agg #[.int .i64 y0, .int .i64 y1, .int .i64 y2, .int .i64 y3])).run Tryz.prog w = .ok (leq [x0, x1, x2, x3] [y0, y1, y2, y3]) w := by
 have u3 := Tryz.underlying3
 have a3 := Tryz.isAgg3
 have z3 := Tryz.sizeOf3
 have hS : Tryz.prog.underlying 54 = some (.struct (Tryz.prog.fieldsOf 54)) := by kernel_rfl
 have hp : Tryz.prog.stoodInHeld 54 = false := by kernel_rfl
 rw [show (10000 : Nat) = 9999 + 1 from rfl, run_equalIn_agg w 9999 54 _ _ hS hp]
 simp only [Program.fieldsOf, Tryz.underlying54]
 go_simp
 unfold leq
 by_cases h0 : x0 = y0 <;> by_cases h1 : x1 = y1 <;> by_cases h2 : x2 = y2 <;> by_cases h3 : x3 = y3 <;> simp [h0, h1, h2, h3]
theorem neqM4 (x0 x1 x2 x3 y0 y1 y2 y3 : Int) (w : World) : (binOp .neq 54 (.agg #[.int .i64 x0, .int .i64 x1, .int .i64 x2, .int .i64 x3]) (.agg #[.int .i64 y0, .int .i64 y1, .int .i64 y2, .int .i64 y3])).run Tryz.prog w = .ok (.bool (!leq [x0, x1, x2, x3] [y0, y1, y2, y3])) w := by
 rw [run_neq_struct, equalM4]
 rfl
theorem samerects_any (a a' : Option Addr) (n c n' c' : Nat) (l m : List (List Int)) (w : World) (h : RdM 4 w a n c l) (h' : RdM 4 w a' n' c' m) :
  Calls Tryz.prog 30 #[.slice a n c, .slice a' n' c'] w fun e w' => e = .returned (.bool (leqs l m)) ∧ ∃ q, w' = w.drewN q := by
 have hl := h.len
 have hl' := h'.len
 have hn63 := h.small.1
 have hn63' := h'.small.1
 have hg := neqM4_guard
 have hne := neqM4
 by_cases hnn : n = n'
 ·subst hnn
  have H := hid h
  have H' := hid h'
  have HL := hid hl
  have HL' := hid hl'
  clear h h' hl hl'
  go_enter Tryz.func30, Tryz.ntmps30
  go_wp2
  go_loopw [5] (fun i wr => ∃ j : Nat, i = .int .i64 j ∧ j ≤ n ∧ leqs (l.drop j) (m.drop j) = leqs l m ∧ ∃ q, wr = w.drewN q) (fun i _ => n - (numOf i).toNat)
  case atStart => exact ⟨0, rfl, by omega, rfl, 0, rfl⟩
  case round =>
   obtain ⟨j, rfl, hj, hq, q, rfl⟩ := hrel
   by_cases hgo : j < n
   ·have e1 : decide ((j : Int) < n) = true := decide_eq_true (by omega)
    have e2 : (j : Int) < n := by omega
    obtain ⟨blx, offx, x0, x1, x2, x3, rfl, _, hx, c0, c1, c2, c3⟩ := H.out.el4 hgo
    obtain ⟨bly, offy, y0, y1, y2, y3, rfl, _, hy, d0, d1, d2, d3⟩ := H'.out.el4 hgo
    have HD : Hid (leqs l m = (leq [x0, x1, x2, x3] [y0, y1, y2, y3] && leqs (l.drop (j + 1)) (m.drop (j + 1)))) := by
     rw [Hid, ← hq, drop_at' hx, drop_at' hy, leqs_cons]
    clear hx hy hq
    have hn0 := hne x0 x1 x2 x3 y0 y1 y2 y3
    cases hs : leq [x0, x1, x2, x3] [y0, y1, y2, y3]
    ·rw [hs] at hn0
     have HE : Hid (leqs l m = false) := by rw [Hid, HD.out, hs]; rfl
     clear HD
     go_wp2
     go_quiet (fail)
     go_wp2
     go_ret
     rw [HE.out, World.drewN_drewN]
     exact ⟨rfl, _, rfl⟩
    ·rw [hs] at hn0
     have HE : Hid (leqs (l.drop (j + 1)) (m.drop (j + 1)) = leqs l m) := by rw [Hid, HD.out, hs]; rfl
     clear HD
     go_wp2
     go_quiet (fail)
     go_wp2
     go_roundw
     case rel => exact ⟨j + 1, by go_num, by omega, HE.out, _, rfl⟩
     case measure => simp [numOf]; omega
   ·have e1 : decide ((j : Int) < n) = false := decide_eq_false (by omega)
    have HE : Hid (leqs l m = true) := by
     rw [Hid, ← hq, List.drop_eq_nil_of_le (by rw [HL.out]; omega), List.drop_eq_nil_of_le (by rw [HL'.out]; omega)]
     rfl
    clear hq
    go_wp2
    go_ret
    rw [HE.out]
    exact ⟨rfl, _, rfl⟩
 ·have HE : Hid (leqs l m = false) := leqs_len (by omega)
  have e1 : ((n : Int) == n') = false := by simp; omega
  clear h h' hl hl'
  go_enter Tryz.func30, Tryz.ntmps30
  go_wp2
  go_ret
  rw [HE.out]
  exact ⟨rfl, 0, rfl⟩
theorem infoM4 : (Tryz.prog.info? 54).map (fun i => (i.zero, i.size, i.bytes)) = some (some (.agg #[.int .i64 0, .int .i64 0, .int .i64 0, .int .i64 0]), 4, 32) := by kernel_rfl
theorem infoM1 : (Tryz.prog.info? 3).map (fun i => (i.zero, i.size, i.bytes)) = some (some (.int .i64 0), 1, 8) := by kernel_rfl
theorem infoM3 : (Tryz.prog.info? 46).map (fun i => (i.zero, i.size, i.bytes)) = some (some (.agg #[.int .i64 0, .int .i64 0, .int .i64 0]), 3, 24) := by kernel_rfl
theorem lrects_any (s : Option Addr) (n c : Nat) (l : List (List Int)) (w : World) (hr : RdM 4 w s n c l) (hn : n ≤ 1000000) :
  Calls Tryz.prog 42 #[.slice s n c] w fun e w' => ∃ v, e = .returned v ∧ OwM 4 54 w w' v l := by
 obtain ⟨i0, hi, hz0, hz1, hz2⟩ := infoMP infoM4
 have HS := hid (hr.src (P := Tryz.prog) (t := 55) (e := 54) Tryz.underlying55)
 have HO := hid (World.ownsRow_nil w w.heap.size 54 4)
 have HL := hid hr.len
 have HK := hid hr.size
 clear hr
 go_enter Tryz.func42, Tryz.ntmps42
 go_wp2_with (at_builtin; refine wpList_append_own_src _ rfl (.const (.slice none 0 0)) (.tmp 3) 55 55 rfl w.heap.size 54 i0 (.agg #[.int .i64 0, .int .i64 0, .int .i64 0, .int .i64 0]) 4 32 Tryz.underlying55 hi hz0 hz1 hz2 rfl _ _ _ rfl HO.out _ _ _ rfl HS.out (by simp only [maxLen]; omega) (fitsM (by omega) (by decide)) (Nat.le_refl _) ?_; intro v3 w3 o3 g3; have HO3 := hid o3; have HG3 := hid g3; clear o3 g3)
 go_ret
 have h3 := HO3.out
 rw [Nat.zero_add, List.nil_append] at h3
 exact ⟨_, rfl, by rw [HL.out]; exact h3, (kp_of_grown HG3.out).below (Nat.le_refl _) (fun k hk => by cases hk), HK.out⟩
theorem lints_any (s : Option Addr) (n c : Nat) (l : List (List Int)) (w : World) (hr : RdM 1 w s n c l) (hn : n ≤ 1000000) :
  Calls Tryz.prog 44 #[.slice s n c] w fun e w' => ∃ v, e = .returned v ∧ OwM 1 3 w w' v l := by
 obtain ⟨i0, hi, hz0, hz1, hz2⟩ := infoMP infoM1
 have HS := hid (hr.src (P := Tryz.prog) (t := 63) (e := 3) Tryz.underlying63)
 have HO := hid (World.ownsRow_nil w w.heap.size 3 1)
 have HL := hid hr.len
 have HK := hid hr.size
 clear hr
 go_enter Tryz.func44, Tryz.ntmps44
 go_wp2_with (at_builtin; refine wpList_append_own_src _ rfl (.const (.slice none 0 0)) (.tmp 3) 63 63 rfl w.heap.size 3 i0 (.int .i64 0) 1 8 Tryz.underlying63 hi hz0 hz1 hz2 rfl _ _ _ rfl HO.out _ _ _ rfl HS.out (by simp only [maxLen]; omega) (fitsM (by omega) (by decide)) (Nat.le_refl _) ?_; intro v3 w3 o3 g3; have HO3 := hid o3; have HG3 := hid g3; clear o3 g3)
 go_ret
 have h3 := HO3.out
 rw [Nat.zero_add, List.nil_append] at h3
 exact ⟨_, rfl, by rw [HL.out]; exact h3, (kp_of_grown HG3.out).below (Nat.le_refl _) (fun k hk => by cases hk), HK.out⟩
theorem rrects_any (s : Option Addr) (n c : Nat) (l : List (List Int)) (w : World) (hr : RdM 4 w s n c l) (hn : n ≤ 1000000) :
  Calls Tryz.prog 123 #[.slice s n c] w fun e w' => ∃ v, e = .returned v ∧ OwM 4 54 w w' v l := by
 obtain ⟨i0, hi, hz0, hz1, hz2⟩ := infoMP infoM4
 have HS := hid (hr.src (P := Tryz.prog) (t := 55) (e := 54) Tryz.underlying55)
 have HO := hid (World.ownsRow_nil w w.heap.size 54 4)
 have HL := hid hr.len
 have HK := hid hr.size
 clear hr
 go_enter Tryz.func123, Tryz.ntmps123
 go_wp2_with (at_builtin; refine wpList_append_own_src _ rfl (.const (.slice none 0 0)) (.tmp 3) 55 55 rfl w.heap.size 54 i0 (.agg #[.int .i64 0, .int .i64 0, .int .i64 0, .int .i64 0]) 4 32 Tryz.underlying55 hi hz0 hz1 hz2 rfl _ _ _ rfl HO.out _ _ _ rfl HS.out (by simp only [maxLen]; omega) (fitsM (by omega) (by decide)) (Nat.le_refl _) ?_; intro v3 w3 o3 g3; have HO3 := hid o3; have HG3 := hid g3; clear o3 g3)
 go_ret
 have h3 := HO3.out
 rw [Nat.zero_add, List.nil_append] at h3
 exact ⟨_, rfl, by rw [HL.out]; exact h3, (kp_of_grown HG3.out).below (Nat.le_refl _) (fun k hk => by cases hk), HK.out⟩
theorem rints_any (s : Option Addr) (n c : Nat) (l : List (List Int)) (w : World) (hr : RdM 1 w s n c l) (hn : n ≤ 1000000) :
  Calls Tryz.prog 124 #[.slice s n c] w fun e w' => ∃ v, e = .returned v ∧ OwM 1 3 w w' v l := by
 obtain ⟨i0, hi, hz0, hz1, hz2⟩ := infoMP infoM1
 have HS := hid (hr.src (P := Tryz.prog) (t := 63) (e := 3) Tryz.underlying63)
 have HO := hid (World.ownsRow_nil w w.heap.size 3 1)
 have HL := hid hr.len
 have HK := hid hr.size
 clear hr
 go_enter Tryz.func124, Tryz.ntmps124
 go_wp2_with (at_builtin; refine wpList_append_own_src _ rfl (.const (.slice none 0 0)) (.tmp 3) 63 63 rfl w.heap.size 3 i0 (.int .i64 0) 1 8 Tryz.underlying63 hi hz0 hz1 hz2 rfl _ _ _ rfl HO.out _ _ _ rfl HS.out (by simp only [maxLen]; omega) (fitsM (by omega) (by decide)) (Nat.le_refl _) ?_; intro v3 w3 o3 g3; have HO3 := hid o3; have HG3 := hid g3; clear o3 g3)
 go_ret
 have h3 := HO3.out
 rw [Nat.zero_add, List.nil_append] at h3
 exact ⟨_, rfl, by rw [HL.out]; exact h3, (kp_of_grown HG3.out).below (Nat.le_refl _) (fun k hk => by cases hk), HK.out⟩
theorem joined4_any (B n c : Nat) (L : List (List (List Int))) (w : World) (h : RdL 4 w B L) (hn : L.length = n) (hL : n ≤ 1000) (hs : L.flatten.length ≤ 1000000) :
  Calls Tryz.prog 105 #[.slice (some ⟨B, 0, none⟩) n c] w fun e w' => ∃ v, e = .returned v ∧ OwM 4 54 w w' v L.flatten := by
 obtain ⟨i0, hi, hz0, hz1, hz2⟩ := infoMP infoM4
 have H := hid h
 have HN := hid hn
 have HS := hid hs
 clear h hn hs
 go_enter Tryz.func105, Tryz.ntmps105
 go_wp2
 go_loopw [3, 8] (fun v i wr => ∃ j : Nat, i = .int .i64 j ∧ j ≤ n ∧ OwM 4 54 w wr v (L.take j).flatten) (fun _ i _ => n - (numOf i).toNat)
 case atStart => exact ⟨0, rfl, by omega, OwM.nil _ _ _⟩
 case round =>
  obtain ⟨j, rfl, hj, hO⟩ := hrel
  have HO := hid hO
  obtain ⟨a0, c0, rfl, -, -⟩ := hO.rd
  clear hO
  by_cases hgo : j < n
  ·have e1 : decide ((j : Int) < n) = true := decide_eq_true (by omega)
   have e2 : (j : Int) < n := by omega
   obtain ⟨l, hl⟩ : ∃ l, L[j]? = some l := ⟨_, List.getElem?_eq_getElem (by rw [HN.out]; exact hgo)⟩
   obtain ⟨a, n1, c1, hc, hr, _⟩ := (H.out.on HO.out.bel).each j l hl
   have HSR := hid (hr.src (P := Tryz.prog) (t := 55) (e := 54) Tryz.underlying55)
   have hsum : (L.take j).flatten.length + n1 ≤ 1000000 := by
    have h1 := flatten_take_le L (j + 1)
    rw [flatten_take_snoc hl, List.length_append, hr.len] at h1
    have := HS.out
    omega
   have HG : Hid (∀ v' u', u'.ownsRow w.heap.size 54 4 v' ((L.take j).flatten.length + n1) (mcs (L.take j).flatten ++ mcs l) → wr.grownBy u' (Value.ownBlock (.slice a0 (L.take j).flatten.length c0)) → OwM 4 54 w u' v' (L.take (j + 1)).flatten) := fun v' u' o g => by
    rw [flatten_take_snoc hl]
    exact HO.out.grown hr.size (by rw [hr.len]; exact o) g
   have HZ := hid HO.out.own
   have hsz := HO.out.bel.size
   clear hr hl
   go_wp2_with (at_builtin; refine wpList_append_own_src _ rfl (.tmp 12) (.tmp 13) 55 55 rfl w.heap.size 54 i0 (.agg #[.int .i64 0, .int .i64 0, .int .i64 0, .int .i64 0]) 4 32 Tryz.underlying55 hi hz0 hz1 hz2 rfl _ _ _ rfl HZ.out _ _ _ rfl HSR.out (by simp only [maxLen]; omega) (fitsM (by omega) (by decide)) hsz ?_; intro v3 w3 o3 g3; have HO3 := hid (HG.out _ _ o3 g3); clear o3 g3)
   go_roundw
   case rel => exact ⟨j + 1, by go_num, by omega, HO3.out⟩
   case measure => simp [numOf]; omega
  ·have e1 : decide ((j : Int) < n) = false := decide_eq_false (by omega)
   obtain rfl : j = n := by omega
   have HN2 : Hid ((L.take j).flatten = L.flatten) := by rw [Hid, List.take_of_length_le (by rw [HN.out]; exact Nat.le_refl _)]
   go_wp2
   go_ret
   exact ⟨_, rfl, by rw [← HN2.out]; exact HO.out⟩
theorem joined1_any (B n c : Nat) (L : List (List (List Int))) (w : World) (h : RdL 1 w B L) (hn : L.length = n) (hL : n ≤ 1000) (hs : L.flatten.length ≤ 1000000) :
  Calls Tryz.prog 106 #[.slice (some ⟨B, 0, none⟩) n c] w fun e w' => ∃ v, e = .returned v ∧ OwM 1 3 w w' v L.flatten := by
 obtain ⟨i0, hi, hz0, hz1, hz2⟩ := infoMP infoM1
 have H := hid h
 have HN := hid hn
 have HS := hid hs
 clear h hn hs
 go_enter Tryz.func106, Tryz.ntmps106
 go_wp2
 go_loopw [3, 8] (fun v i wr => ∃ j : Nat, i = .int .i64 j ∧ j ≤ n ∧ OwM 1 3 w wr v (L.take j).flatten) (fun _ i _ => n - (numOf i).toNat)
 case atStart => exact ⟨0, rfl, by omega, OwM.nil _ _ _⟩
 case round =>
  obtain ⟨j, rfl, hj, hO⟩ := hrel
  have HO := hid hO
  obtain ⟨a0, c0, rfl, -, -⟩ := hO.rd
  clear hO
  by_cases hgo : j < n
  ·have e1 : decide ((j : Int) < n) = true := decide_eq_true (by omega)
   have e2 : (j : Int) < n := by omega
   obtain ⟨l, hl⟩ : ∃ l, L[j]? = some l := ⟨_, List.getElem?_eq_getElem (by rw [HN.out]; exact hgo)⟩
   obtain ⟨a, n1, c1, hc, hr, _⟩ := (H.out.on HO.out.bel).each j l hl
   have HSR := hid (hr.src (P := Tryz.prog) (t := 63) (e := 3) Tryz.underlying63)
   have hsum : (L.take j).flatten.length + n1 ≤ 1000000 := by
    have h1 := flatten_take_le L (j + 1)
    rw [flatten_take_snoc hl, List.length_append, hr.len] at h1
    have := HS.out
    omega
   have HG : Hid (∀ v' u', u'.ownsRow w.heap.size 3 1 v' ((L.take j).flatten.length + n1) (mcs (L.take j).flatten ++ mcs l) → wr.grownBy u' (Value.ownBlock (.slice a0 (L.take j).flatten.length c0)) → OwM 1 3 w u' v' (L.take (j + 1)).flatten) := fun v' u' o g => by
    rw [flatten_take_snoc hl]
    exact HO.out.grown hr.size (by rw [hr.len]; exact o) g
   have HZ := hid HO.out.own
   have hsz := HO.out.bel.size
   clear hr hl
   go_wp2_with (at_builtin; refine wpList_append_own_src _ rfl (.tmp 12) (.tmp 13) 63 63 rfl w.heap.size 3 i0 (.int .i64 0) 1 8 Tryz.underlying63 hi hz0 hz1 hz2 rfl _ _ _ rfl HZ.out _ _ _ rfl HSR.out (by simp only [maxLen]; omega) (fitsM (by omega) (by decide)) hsz ?_; intro v3 w3 o3 g3; have HO3 := hid (HG.out _ _ o3 g3); clear o3 g3)
   go_roundw
   case rel => exact ⟨j + 1, by go_num, by omega, HO3.out⟩
   case measure => simp [numOf]; omega
  ·have e1 : decide ((j : Int) < n) = false := decide_eq_false (by omega)
   obtain rfl : j = n := by omega
   have HN2 : Hid ((L.take j).flatten = L.flatten) := by rw [Hid, List.take_of_length_le (by rw [HN.out]; exact Nat.le_refl _)]
   go_wp2
   go_ret
   exact ⟨_, rfl, by rw [← HN2.out]; exact HO.out⟩
theorem joined3_any (B n c : Nat) (L : List (List (List Int))) (w : World) (h : RdL 3 w B L) (hn : L.length = n) (hL : n ≤ 1000) (hs : L.flatten.length ≤ 1000000) :
  Calls Tryz.prog 127 #[.slice (some ⟨B, 0, none⟩) n c] w fun e w' => ∃ v, e = .returned v ∧ OwM 3 46 w w' v L.flatten := by
 obtain ⟨i0, hi, hz0, hz1, hz2⟩ := infoMP infoM3
 have H := hid h
 have HN := hid hn
 have HS := hid hs
 clear h hn hs
 go_enter Tryz.func127, Tryz.ntmps127
 go_wp2
 go_loopw [3, 8] (fun v i wr => ∃ j : Nat, i = .int .i64 j ∧ j ≤ n ∧ OwM 3 46 w wr v (L.take j).flatten) (fun _ i _ => n - (numOf i).toNat)
 case atStart => exact ⟨0, rfl, by omega, OwM.nil _ _ _⟩
 case round =>
  obtain ⟨j, rfl, hj, hO⟩ := hrel
  have HO := hid hO
  obtain ⟨a0, c0, rfl, -, -⟩ := hO.rd
  clear hO
  by_cases hgo : j < n
  ·have e1 : decide ((j : Int) < n) = true := decide_eq_true (by omega)
   have e2 : (j : Int) < n := by omega
   obtain ⟨l, hl⟩ : ∃ l, L[j]? = some l := ⟨_, List.getElem?_eq_getElem (by rw [HN.out]; exact hgo)⟩
   obtain ⟨a, n1, c1, hc, hr, _⟩ := (H.out.on HO.out.bel).each j l hl
   have HSR := hid (hr.src (P := Tryz.prog) (t := 23) (e := 46) Tryz.underlying23)
   have hsum : (L.take j).flatten.length + n1 ≤ 1000000 := by
    have h1 := flatten_take_le L (j + 1)
    rw [flatten_take_snoc hl, List.length_append, hr.len] at h1
    have := HS.out
    omega
   have HG : Hid (∀ v' u', u'.ownsRow w.heap.size 46 3 v' ((L.take j).flatten.length + n1) (mcs (L.take j).flatten ++ mcs l) → wr.grownBy u' (Value.ownBlock (.slice a0 (L.take j).flatten.length c0)) → OwM 3 46 w u' v' (L.take (j + 1)).flatten) := fun v' u' o g => by
    rw [flatten_take_snoc hl]
    exact HO.out.grown hr.size (by rw [hr.len]; exact o) g
   have HZ := hid HO.out.own
   have hsz := HO.out.bel.size
   clear hr hl
   go_wp2_with (at_builtin; refine wpList_append_own_src _ rfl (.tmp 12) (.tmp 13) 23 23 rfl w.heap.size 46 i0 (.agg #[.int .i64 0, .int .i64 0, .int .i64 0]) 3 24 Tryz.underlying23 hi hz0 hz1 hz2 rfl _ _ _ rfl HZ.out _ _ _ rfl HSR.out (by simp only [maxLen]; omega) (fitsM (by omega) (by decide)) hsz ?_; intro v3 w3 o3 g3; have HO3 := hid (HG.out _ _ o3 g3); clear o3 g3)
   go_roundw
   case rel => exact ⟨j + 1, by go_num, by omega, HO3.out⟩
   case measure => simp [numOf]; omega
  ·have e1 : decide ((j : Int) < n) = false := decide_eq_false (by omega)
   obtain rfl : j = n := by omega
   have HN2 : Hid ((L.take j).flatten = L.flatten) := by rw [Hid, List.take_of_length_le (by rw [HN.out]; exact Nat.le_refl _)]
   go_wp2
   go_ret
   exact ⟨_, rfl, by rw [← HN2.out]; exact HO.out⟩
end
section
structure Bk (u : World) (p T : Nat) (cs : Array Value) : Prop where
 obj : u.heap[p]? = some (.cells cs T (0, 0))
theorem Bk.lt {u : World} {p T : Nat} {cs : Array Value} (h : Bk u p T cs) : p < u.heap.size := (Array.getElem?_eq_some_iff.1 h.obj).1
theorem Bk.cell {u : World} {p T : Nat} {cs : Array Value} (h : Bk u p T cs) (k : Nat) : u.cell? ⟨p, k, none⟩ = cs[k]? := Lib.cell_of_heap h.obj k
theorem Bk.fz {u : World} {p T : Nat} {cs : Array Value} (h : Bk u p T cs) (k : Nat) : u.frozen? ⟨p, k, none⟩ = false := Lib.frozen_of_heap h.obj k
theorem Bk.on {u v : World} {p T : Nat} {cs : Array Value} (h : Bk u p T cs) (hb : Below u.heap.size u v) : Bk v p T cs := ⟨by rw [hb.block p h.lt]; exact h.obj⟩
theorem Bk.kp {u v : World} {p T : Nat} {cs : Array Value} (h : Bk u p T cs) {X : List Nat} (hb : Kp X u v) (hX : p ∉ X) : Bk v p T cs := ⟨hb.var h.obj hX⟩
theorem bk_new (w : World) (cs : Array Value) (T : Nat) : Bk (w.alloc (.cells cs T)) w.heap.size T cs := ⟨heap_alloc_new w _⟩
theorem Bk.set {u : World} {p T : Nat} {cs : Array Value} (h : Bk u p T cs) (k : Nat) (v : Value) : Bk (u.setCell ⟨p, k, none⟩ v) p T (cs.setIfInBounds k v) := ⟨heap_setCell_same _ p k _ _ _ h.obj⟩
theorem Bk.other {u : World} {p q T : Nat} {cs : Array Value} (h : Bk u p T cs) (hn : p ≠ q) (k : Nat) (v : Value) : Bk (u.setCell ⟨q, k, none⟩ v) p T cs := ⟨by rw [heap_setCell_other _ _ _ _ hn]; exact h.obj⟩
theorem bel_new (w : World) (o : Obj) : Below w.heap.size w (w.alloc o) := (Below.refl _ _).alloc (Nat.le_refl _) _
theorem size_new (w : World) (o : Obj) : (w.alloc o).heap.size = w.heap.size + 1 := by simp
theorem results_cell_tmp' {P : Program} {fn : Func} {p u : Tmp} {ty : TypeId} (h : fn.results = #[.cell p ty, .tmp u]) (tmps : Array Value) (w : World) (g : Nat) (t : TypeId) (cs : Array Value) (fr : Nat × Nat) (d : TypeDesc)
  (hp : tmps.getD p undef = .pointer (some ⟨g, 0, none⟩)) (hg : w.heap[g]? = some (.cells cs t fr))
  (hu : P.underlying ty = some d) (hd : (match d with | .struct _ | .array _ _ => true | _ => false) = true) (hi : (P.info? ty).map (·.size) = some cs.size) :
  (results fn tmps).run P w = .ok (.tuple #[.agg cs, tmps.getD u undef]) w := by
 have hp' : tmps[p]?.getD undef = .pointer (some ⟨g, 0, none⟩) := by simpa using hp
 simp [results, h, hp', asAddr, run_loadVar_row w g t ty cs fr d hg hu hd hi]
theorem infoCh : (Tryz.prog.info? 46).map (·.size) = some 3 := by kernel_rfl
def sto3 (u : World) (g o : Nat) (z0 z1 z2 : Int) : World := ((u.setCell ⟨g, o, none⟩ (.int .i64 z0)).setCell ⟨g, o + 1, none⟩ (.int .i64 z1)).setCell ⟨g, o + 2, none⟩ (.int .i64 z2)
theorem below_sto3 {B : Nat} {w u : World} {g : Nat} (h : Below B w u) (hg : B ≤ g) (o : Nat) (z0 z1 z2 : Int) : Below B w (sto3 u g o z0 z1 z2) := ((h.setCell (p := ⟨g, o, none⟩) hg _).setCell (p := ⟨g, o + 1, none⟩) hg _).setCell (p := ⟨g, o + 2, none⟩) hg _
theorem mcs_set3 {l : List (List Int)} (h : ∀ y ∈ l, y.length = 3) {j : Nat} (hj : j < l.length) (z0 z1 z2 : Int) : mcs (l.set j [z0, z1, z2]) = (((mcs l).set (j * 3) (.int .i64 z0)).set (j * 3 + 1) (.int .i64 z1)).set (j * 3 + 2) (.int .i64 z2) := by
 induction l generalizing j with
 | nil => simp at hj
 | cons x l ih =>
  have hx := h x (by simp)
  match x, hx with
  | [a, b, c], _ =>
   cases j with
   | zero => simp [mcs_cons]
   | succ j =>
    rw [List.set_cons_succ, mcs_cons, mcs_cons, ih (fun y hy => h y (by simp [hy])) (by simpa using hj), show (j + 1) * 3 = j * 3 + 3 by omega]
    simp only [List.map_cons, List.map_nil, List.cons_append, List.nil_append, show j * 3 + 3 + 1 = j * 3 + 1 + 3 by omega, show j * 3 + 3 + 2 = j * 3 + 2 + 3 by omega, List.set_cons_succ]
theorem OwM.sto3 {e : Nat} {w u : World} {g n c : Nat} {l : List (List Int)} (h : OwM 3 e w u (.slice (some ⟨g, 0, none⟩) n c) l) (hn : l.length = n) {j : Nat} (hj : j < n) (z0 z1 z2 : Int) : OwM 3 e w (sto3 u g (j * 3) z0 z1 z2) (.slice (some ⟨g, 0, none⟩) n c) (l.set j [z0, z1, z2]) := by
 have h1 := h.own
 rw [hn] at h1
 have hg := (h1.lt g rfl).1
 have h2 := (h1.stored (j * 3) (.int .i64 z0)).1
 have h3 := (h2.stored (j * 3 + 1) (.int .i64 z1)).1
 have h4 := (h3.stored (j * 3 + 2) (.int .i64 z2)).1
 refine ⟨by rw [List.length_set, hn, mcs_set3 h.size (by omega)]; exact h4, below_sto3 h.bel hg _ _ _ _, fun y hy => ?_⟩
 rcases List.mem_or_eq_of_mem_set hy with hy | rfl
 ·exact h.size y hy
 ·rfl
theorem OwM.fz {m e : Nat} {w u : World} {g n c : Nat} {l : List (List Int)} (h : OwM m e w u (.slice (some ⟨g, 0, none⟩) n c) l) (hn : l.length = n) (k : Nat) : u.frozen? ⟨g, k, none⟩ = false := by
 have h1 := h.own
 rw [hn] at h1
 exact h1.frozenAt k
theorem OwM.plain {m e : Nat} {w u : World} {v : Value} {l : List (List Int)} (h : OwM m e w u v l) (hl : 0 < l.length) : ∃ g c, v = .slice (some ⟨g, 0, none⟩) l.length c ∧ w.heap.size ≤ g ∧ g < u.heap.size ∧ l.length ≤ c ∧ c ≤ maxLen := by
 rcases h.own.2 with ⟨rfl, h0⟩ | ⟨g, cap, cur, rfl, hb, hg, hn, hm, _, _⟩
 ·omega
 ·exact ⟨g, cap, rfl, hb, (Array.getElem?_eq_some_iff.1 hg).1, hn, hm⟩
def FndV (k : Int) (l : List (List Int)) (v : Value) (b : Bool) : Prop := match fnd k l with
 | some y => v = .agg (y.map (Value.int .i64)).toArray ∧ b = true
 | none => v = .agg #[.int .i64 0, .int .i64 0, .int .i64 0] ∧ b = false
theorem idxfn_any (k : Int) (w : World) (q : Nat) (hq : w.cell? ⟨q, 0, none⟩ = some (.int .i64 k)) (z0 z1 z2 : Int) (u : World) (hu : Below w.heap.size w u) :
  Calls Tryz.prog 134 (#[.agg #[.int .i64 z0, .int .i64 z1, .int .i64 z2]] ++ #[.pointer (some ⟨q, 0, none⟩)]) u fun e w' => e = .returned (.bool (z0 == k)) ∧ Below u.heap.size u w' := by
 have hlt := World.block_lt_of_cell? w _ hq
 have hc : u.cell? ⟨q, 0, none⟩ = some (.int .i64 k) := by rw [hu.cell hlt]; exact hq
 have hb := bel_new u (.cells #[.int .i64 z0, .int .i64 z1, .int .i64 z2] 46)
 have hc2 : (u.alloc (.cells #[.int .i64 z0, .int .i64 z1, .int .i64 z2] 46)).cell? ⟨q, 0, none⟩ = some (.int .i64 k) := by rw [hb.cell (World.block_lt_of_cell? u _ hc)]; exact hc
 have HB := hid hb
 clear hb hu
 go_enter Tryz.func134, Tryz.ntmps134
 go_wp2
 go_ret
 exact ⟨rfl, HB.out⟩
theorem cindexg_any (a : Option Addr) (n c : Nat) (l : List (List Int)) (k : Int) (g : Nat) (lb : Array Value) (w : World) (h : RdM 3 w a n c l) (eg : ∀ args w, (callFunc g args).run Tryz.prog w = .ok (.enter g args) w)
  (hp : ∀ (z0 z1 z2 : Int) (u : World), Below w.heap.size w u → Calls Tryz.prog g (#[.agg #[.int .i64 z0, .int .i64 z1, .int .i64 z2]] ++ lb) u fun e w' => e = .returned (.bool (z0 == k)) ∧ Below u.heap.size u w') :
  Calls Tryz.prog 133 #[.slice a n c, .func (.func g) #[] lb] w fun e w' => e = .returned (.int .i64 (ixI k l)) ∧ Below w.heap.size w w' := by
 have HL := hid h.len
 have hs := h.small
 have H := hid h
 have HP := hid hp
 clear h hp
 go_enter Tryz.func133, Tryz.ntmps133
 go_wp2
 go_loopw [8] (fun i wr => ∃ j : Nat, i = .int .i64 j ∧ j ≤ n ∧ (∀ i y, i < j → l[i]? = some y → hd y ≠ k) ∧ RowKit.Below w.heap.size w wr) (fun i _ => n - (numOf i).toNat)
 case atStart => exact ⟨0, rfl, by omega, fun k r hk => absurd hk (by omega), Below.refl _ _⟩
 case round =>
  obtain ⟨j, rfl, hj, hN, hb⟩ := hrel
  have HN := hid hN
  have HB := hid hb
  clear hN hb
  by_cases hgo : j < n
  ·have e1 : decide ((j : Int) < n) = true := decide_eq_true (by omega)
   obtain ⟨b, off, z0, z1, z2, rfl, _, hr, c0, c1, c2⟩ := (H.out.on HB.out).el3 hgo
   have CP := hid (HP.out z0 z1 z2 wr HB.out)
   have HR := hid hr
   have e3 : (j : Int) < n := by omega
   clear hr
   cases hq : (z0 == k)
   ·rw [hq] at CP
    have HN2 : Hid (∀ i x, i < j + 1 → l[i]? = some x → hd x ≠ k) := fun i x hi hx => by
     rcases Nat.lt_or_ge i j with h | h
     ·exact HN.out i x h hx
     ·obtain rfl : i = j := by omega
      rw [HR.out] at hx
      cases hx
      rw [hd3]; simpa using hq
    clear hq
    go_wp2_with fail
    refine CP.out.mono ?_
    rintro e w2 ⟨rfl, hb2⟩
    have HB2 := hid (Below.on HB.out hb2)
    clear hb2
    go_wp2
    go_roundw
    case rel => exact ⟨j + 1, by go_num, by omega, HN2.out, HB2.out⟩
    case measure => simp [numOf]; omega
   ·rw [hq] at CP
    have HI : Hid (ixI k l = j) := by
     rw [Hid, ixI, ixf_drop HN.out, drop_at' HR.out, ixf, if_pos (by rw [hd3]; simpa using hq)]
     simp
    clear hq
    go_wp2_with fail
    refine CP.out.mono ?_
    rintro e w2 ⟨rfl, hb2⟩
    have HB2 := hid (Below.on HB.out hb2)
    clear hb2
    go_wp2
    go_ret
    rw [HI.out]
    exact ⟨rfl, HB2.out⟩
  ·have e1 : decide ((j : Int) < n) = false := decide_eq_false (by omega)
   have HI : Hid (ixI k l = -1) := by
    rw [Hid, ixI, ixf_drop HN.out, List.drop_eq_nil_of_le (by rw [HL.out]; omega)]
    rfl
   go_wp2
   go_ret
   rw [HI.out]
   exact ⟨rfl, HB.out⟩
theorem cindexfunc_any (a : Option Addr) (n c : Nat) (l : List (List Int)) (k : Int) (q : Nat) (w : World) (h : RdM 3 w a n c l) (hq : w.cell? ⟨q, 0, none⟩ = some (.int .i64 k)) :
  Calls Tryz.prog 133 #[.slice a n c, .func (.func 134) #[] #[.pointer (some ⟨q, 0, none⟩)]] w fun e w' => e = .returned (.int .i64 (ixI k l)) ∧ Below w.heap.size w w' :=
 cindexg_any a n c l k 134 _ w h (enters_of Tryz.func134 (by kernel_rfl) rfl) (fun z0 z1 z2 u hu => idxfn_any k w q hq z0 z1 z2 u hu)
theorem index_any (a : Option Addr) (n c : Nat) (l : List (List Int)) (k : Int) (w : World) (h : RdM 3 w a n c l) :
  Calls Tryz.prog 128 #[.slice a n c, .int .i64 k] w fun e w' => e = .returned (.int .i64 (ixI k l)) ∧ Below w.heap.size w w' := by
 have hb := bel_new w (.cells #[.int .i64 k] 3)
 have CI := hid (cindexfunc_any a n c l k w.heap.size _ (h.on hb) ((bk_new w #[.int .i64 k] 3).cell 0))
 have HB := hid hb
 clear h hb
 go_enter Tryz.func128, Tryz.ntmps128
 go_wp2_with fail
 refine CI.out.mono ?_
 rintro e w2 ⟨rfl, hb2⟩
 have HB2 := hid (Below.on HB.out hb2)
 clear hb2
 go_wp2
 go_ret
 exact ⟨rfl, HB2.out⟩
end
end Go.Proofs.YtkjempffidndeaaGreatDoor
