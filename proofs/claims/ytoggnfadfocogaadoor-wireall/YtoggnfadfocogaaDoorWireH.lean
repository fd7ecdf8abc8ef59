/- The contract of the program's wire.getArg. -/
import Derived.Test.YtoggnfadfocogaaDoorWireG
import Derived.Test.YtoggnfadfocogaaDoorLibE
import Derived.Lib.Builder
namespace Go.Proofs.YtoggnfadfocogaaDoor
open Go Go.RowKit

theorem eqNilS (x : Addr) (w : World) : (binOp .eql 31 .nilIface (.iface 106 (.pointer (some x)))).run Tryd.prog w = .ok (.bool false) w := by kernel_rfl
set_option maxRecDepth 100000 in
theorem Is_nil (w : World) (x : Addr) : Calls Tryd.prog 34 #[.nilIface, .iface 106 (.pointer (some x))] w fun e w' => e = .returned (.bool false) ∧ w' = w := by
  have heq := eqNilS
  go_enter Tryd.func34, Tryd.ntmps34
  go_wp2
  go_ret
  exact ⟨rfl, rfl⟩

/-- The world with the result's variable. -/
abbrev wA (w : World) : World := w.alloc (.cells #[.int .u8 0, .int .i64 0, .string ⟨#[]⟩] 60)
theorem wA_below (w : World) : Below w.heap.size w (wA w) := (Below.refl _ _).alloc (Nat.le_refl _) _
theorem wA_new (w : World) : (wA w).heap[w.heap.size]? = some (.cells #[.int .u8 0, .int .i64 0, .string ⟨#[]⟩] 60 (0, 0)) := by
  show (w.heap.push _)[w.heap.size]? = _
  simp
theorem wA_keeps {w w' : World} (h : Below (wA w).heap.size (wA w) w') : w'.heap[w.heap.size]? = some (.cells #[.int .u8 0, .int .i64 0, .string ⟨#[]⟩] 60 (0, 0)) ∧ Below w.heap.size w w' := by
  refine ⟨?_, Below.on (wA_below w) h⟩
  rw [h.block _ (by show _ < (w.heap.push _).size; simp)]
  exact wA_new w

theorem below_set3 {w u : World} (h : Below w.heap.size w u) (v1 v2 v3 : Value) : Below w.heap.size w (((u.setCell ⟨w.heap.size, 0, none⟩ v1).setCell ⟨w.heap.size, 1, none⟩ v2).setCell ⟨w.heap.size, 2, none⟩ v3) :=
  ((h.setCell (p := ⟨w.heap.size, 0, none⟩) (Nat.le_refl _) v1).setCell (p := ⟨w.heap.size, 1, none⟩) (Nat.le_refl _) v2).setCell (p := ⟨w.heap.size, 2, none⟩) (Nat.le_refl _) v3

set_option maxRecDepth 100000 in
set_option maxHeartbeats 1000000 in
theorem getArg_err (w : World) (a : Option Addr) (n c : Nat) (p : Int) (z : Nat) (N : Int) (s : List UInt8) (m : Nat) (x : Addr)
    (H : Calls Tryd.prog 40 #[.slice a n c, .int .i64 p, .int .u8 z] (wA w) fun e w' => e = .returned (.tuple #[argV z N s, .int .i64 m, .iface 106 (.pointer (some x))]) ∧ Below (wA w).heap.size (wA w) w') :
    Calls Tryd.prog 30 #[.slice a n c, .int .i64 p, .int .u8 z] w fun e w' => e = .returned (.tuple #[argV 0 0 [], .int .i64 0, .iface 106 (.pointer (some x))]) ∧ Below w.heap.size w w' := by
  have H' : Hid (Calls Tryd.prog 40 #[.slice a n c, .int .i64 p, .int .u8 z] (wA w) fun e w' => e = .returned (.tuple #[.agg #[.int .u8 z, .int .i64 N, .string ⟨s.toArray⟩], .int .i64 m, .iface 106 (.pointer (some x))]) ∧ w'.heap[w.heap.size]? = some (.cells #[.int .u8 0, .int .i64 0, .string ⟨#[]⟩] 60 (0, 0)) ∧ Below w.heap.size w w') := by
    refine H.mono ?_
    rintro e w' ⟨rfl, hb⟩
    exact ⟨rfl, wA_keeps hb⟩
  clear H
  go_enter Tryd.func30, Tryd.ntmps30
  go_wp2_with fail
  refine H'.out.mono ?_
  rintro e w1 ⟨rfl, hz, hb⟩
  have zl : w.heap.size < w1.heap.size := (Array.getElem?_eq_some_iff.1 hz).1
  have z0 : w1.cell? ⟨w.heap.size, 0, none⟩ = some (.int .u8 0) := by rw [World.cell?, hz]; rfl
  have z1 : w1.cell? ⟨w.heap.size, 1, none⟩ = some (.int .i64 0) := by rw [World.cell?, hz]; rfl
  have z2 : w1.cell? ⟨w.heap.size, 2, none⟩ = some (.string ⟨#[]⟩) := by rw [World.cell?, hz]; rfl
  have zf : ∀ k, w1.frozen? ⟨w.heap.size, k, none⟩ = false := Lib.frozen_of_heap hz
  have HB : Hid (Below w.heap.size w w1) := hb
  clear hz hb H'
  go_wp2
  refine bodyPost_ret (v := .tuple #[argV 0 0 [], .int .i64 0, .iface 106 (.pointer (some x))]) ?_ rfl ⟨rfl, ?_⟩
  · simp [results, Tryd.results30, go_sem, argV, z0, z1, z2, zl]
  · exact (below_set3 HB.out _ _ _).alloc (below_set3 HB.out _ _ _).size _

set_option maxRecDepth 100000 in
set_option maxHeartbeats 2000000 in
theorem getArg_bad (w : World) (a : Option Addr) (n c : Nat) (p : Int) (z : Nat) (N : Int) (s : List UInt8) (hs : s.length ≤ 1152921504606846976) (m : Nat) (es : List Addr) (hE : E4 w es) (hk : suchB z N s = false)
    (H : Calls Tryd.prog 40 #[.slice a n c, .int .i64 p, .int .u8 z] (wA w) fun e w' => e = .returned (.tuple #[argV z N s, .int .i64 m, .nilIface]) ∧ Below (wA w).heap.size (wA w) w') :
    Calls Tryd.prog 30 #[.slice a n c, .int .i64 p, .int .u8 z] w fun e w' => e = .returned (.tuple #[argV 0 0 [], .int .i64 0, erv es 3]) ∧ Below w.heap.size w w' := by
  have H' : Hid (Calls Tryd.prog 40 #[.slice a n c, .int .i64 p, .int .u8 z] (wA w) fun e w' => e = .returned (.tuple #[.agg #[.int .u8 z, .int .i64 N, .string ⟨s.toArray⟩], .int .i64 m, .nilIface]) ∧ w'.heap[w.heap.size]? = some (.cells #[.int .u8 0, .int .i64 0, .string ⟨#[]⟩] 60 (0, 0)) ∧ Below w.heap.size w w') := by
    refine H.mono ?_
    rintro e w' ⟨rfl, hb⟩
    exact ⟨rfl, wA_keeps hb⟩
  have HE : Hid (E4 w es) := hE
  have HK : Hid (∀ u, Below w.heap.size w u → Calls Tryd.prog 35 #[.agg #[.int .u8 z, .int .i64 N, .string ⟨s.toArray⟩], .int .u8 z] u fun e w' => e = .returned (.iface 106 (.pointer (some (es.getD 0 ⟨0, 0, none⟩)))) ∧ Below u.heap.size u w') := fun u hu => by
    refine (checkArg_any z N ⟨s.toArray⟩ (by show s.length ≤ _; exact hs) z u es (hE.below hu).arg).mono ?_
    rintro e w' ⟨rfl, hb⟩
    refine ⟨?_, hb⟩
    have e1 : okArg z N (ByteArray.mk s.toArray).data.toList z = false := by
      show (decide (z = z) && suchB z N s) = _
      rw [hk]
      simp
    rw [e1]
    rfl
  have HI : Hid (∀ u, Calls Tryd.prog 34 #[.iface 106 (.pointer (some (es.getD 0 ⟨0, 0, none⟩))), .iface 106 (.pointer (some (es.getD 0 ⟨0, 0, none⟩)))] u fun e w' => e = .returned (.bool true) ∧ w' = u) := fun u => is_same _ u
  clear H hE hk hs
  go_enter Tryd.func30, Tryd.ntmps30
  go_wp2_with fail
  refine H'.out.mono ?_
  rintro e w1 ⟨rfl, hz, hb⟩
  have HZ1 : Hid (w1.heap[w.heap.size]? = some (.cells #[.int .u8 0, .int .i64 0, .string ⟨#[]⟩] 60 (0, 0))) := hz
  have HB1 : Hid (Below w.heap.size w w1) := hb
  clear hz hb H'
  go_wp2_with fail
  have bV : Below w1.heap.size w1 (w1.alloc (.cells #[.int .u8 z, .int .i64 N, .string ⟨s.toArray⟩] 60)) := (Below.refl _ _).alloc (Nat.le_refl _) _
  have tf0 : ∀ u, Below (w1.alloc (.cells #[.int .u8 z, .int .i64 N, .string ⟨s.toArray⟩] 60)).heap.size (w1.alloc (.cells #[.int .u8 z, .int .i64 N, .string ⟨s.toArray⟩] 60)) u → u.cell? ⟨w1.heap.size, 0, none⟩ = some (.int .u8 z) := fun u hu => by rw [hu.cell (by simp)]; simp
  have tf1 : ∀ u, Below (w1.alloc (.cells #[.int .u8 z, .int .i64 N, .string ⟨s.toArray⟩] 60)).heap.size (w1.alloc (.cells #[.int .u8 z, .int .i64 N, .string ⟨s.toArray⟩] 60)) u → u.cell? ⟨w1.heap.size, 1, none⟩ = some (.int .i64 N) := fun u hu => by rw [hu.cell (by simp)]; simp
  have tf2 : ∀ u, Below (w1.alloc (.cells #[.int .u8 z, .int .i64 N, .string ⟨s.toArray⟩] 60)).heap.size (w1.alloc (.cells #[.int .u8 z, .int .i64 N, .string ⟨s.toArray⟩] 60)) u → u.cell? ⟨w1.heap.size, 2, none⟩ = some (.string ⟨s.toArray⟩) := fun u hu => by rw [hu.cell (by simp)]; simp
  have tg : ∀ u, Below (w1.alloc (.cells #[.int .u8 z, .int .i64 N, .string ⟨s.toArray⟩] 60)).heap.size (w1.alloc (.cells #[.int .u8 z, .int .i64 N, .string ⟨s.toArray⟩] 60)) u → u.cell? ⟨2, 0, none⟩ = some (.iface 106 (.pointer (some (es.getD 0 ⟨0, 0, none⟩)))) := fun u hu => (HE.out.below (Below.on HB1.out (bV.trans (hu.mono bV.size)))).arg
  have HC : Hid (∀ u, Below (w1.alloc (.cells #[.int .u8 z, .int .i64 N, .string ⟨s.toArray⟩] 60)).heap.size (w1.alloc (.cells #[.int .u8 z, .int .i64 N, .string ⟨s.toArray⟩] 60)) u → Calls Tryd.prog 35 #[.agg #[.int .u8 z, .int .i64 N, .string ⟨s.toArray⟩], .int .u8 z] u fun e w' => e = .returned (.iface 106 (.pointer (some (es.getD 0 ⟨0, 0, none⟩)))) ∧ Below u.heap.size u w') := fun u hu => HK.out u (Below.on HB1.out (bV.trans (hu.mono bV.size)))
  have HV : Hid (∀ u, Below (w1.alloc (.cells #[.int .u8 z, .int .i64 N, .string ⟨s.toArray⟩] 60)).heap.size (w1.alloc (.cells #[.int .u8 z, .int .i64 N, .string ⟨s.toArray⟩] 60)) u → u.heap[w.heap.size]? = some (.cells #[.int .u8 0, .int .i64 0, .string ⟨#[]⟩] 60 (0, 0)) ∧ Below w.heap.size w u ∧ u.cell? ⟨w1.heap.size, 0, none⟩ = some (.int .u8 z) ∧ u.cell? ⟨w1.heap.size, 1, none⟩ = some (.int .i64 N) ∧ u.cell? ⟨w1.heap.size, 2, none⟩ = some (.string ⟨s.toArray⟩) ∧ w.heap.size ≠ w1.heap.size) := fun u hu => by
    have hb := bV.trans (hu.mono bV.size)
    have hl := (Array.getElem?_eq_some_iff.1 HZ1.out).1
    exact ⟨by rw [hb.block _ hl]; exact HZ1.out, Below.on HB1.out hb, tf0 u hu, tf1 u hu, tf2 u hu, by omega⟩
  clear HK bV
  generalize w1.alloc (.cells #[.int .u8 z, .int .i64 N, .string ⟨s.toArray⟩] 60) = V at *
  refine wp_region_held_drew (S := fun x => Below V.heap.size V x) (by kernel_rfl) (Below.refl _ _).drew (fun hHeld => ?_)
  have hHeld : Below V.heap.size V V.drew := hHeld
  have bw : Below V.heap.size V V.drew := (Below.refl _ _).drew
  refine wpAnyH_take (i := 0) (v := ?_) rfl (by kernel_rfl) (by kernel_rfl) (by kernel_rfl) (fun _ _ _ h => h) (Or.inl ⟨by kernel_rfl, ?hy0⟩) (by assumption) ?_
  case hy0 => (intro w hSw; (try dsimp only at hSw); go_simp; try with_reducible rfl)
  try simp only [Act.put, List.getElem_toArray, List.getElem_cons_zero, List.setIfInBounds_toArray, List.set_cons_zero, List.set_cons_succ]
  refine wpAnyH_take (i := 1) (v := ?_) rfl (by kernel_rfl) (by kernel_rfl) (by kernel_rfl) (fun _ _ _ h => h) (Or.inl ⟨by kernel_rfl, ?hy1⟩) (by assumption) ?_
  case hy1 => (intro w hSw; (try dsimp only at hSw); go_simp; try with_reducible rfl)
  try simp only [Act.put, List.getElem_toArray, List.getElem_cons_zero, List.getElem_cons_succ, List.setIfInBounds_toArray, List.set_cons_zero, List.set_cons_succ]
  refine wpAnyH_take (i := 3) (v := ?_) rfl (by kernel_rfl) (by kernel_rfl) (by kernel_rfl) (fun _ _ _ h => h) (Or.inl ⟨by kernel_rfl, ?hy3⟩) (by assumption) ?_
  case hy3 => (intro w hSw; (try dsimp only at hSw); go_simp; try with_reducible rfl)
  try simp only [Act.put, List.getElem_toArray, List.getElem_cons_zero, List.getElem_cons_succ, List.setIfInBounds_toArray, List.set_cons_zero, List.set_cons_succ]
  refine wpAnyH_ready (rs := [2]) (by kernel_rfl) (by simp) ?_
  refine AllReadyH.cons rfl (fun K hK => ?_) AllReadyH.nil
  go_simp
  go_wp2_with fail
  refine (HC.out _ bw).mono ?_
  rintro e u2 ⟨rfl, hb⟩
  have hS' := Below.on hHeld hb
  refine hK.out _ _ hS' (fun _ => ?_)
  clear hK K
  refine wpAnyH_mono (S' := fun x => Below u2.heap.size u2 x) (fun x hx => Below.on hS' hx) ?_
  replace bw := Below.on bw hb
  replace tf0 := fun x hx => tf0 x (Below.on hS' hx)
  replace tf1 := fun x hx => tf1 x (Below.on hS' hx)
  replace tf2 := fun x hx => tf2 x (Below.on hS' hx)
  replace tg := fun x hx => tg x (Below.on hS' hx)
  clear hHeld hb hS'
  have hHeld : Below u2.heap.size u2 u2 := Below.refl _ _
  refine wpAnyH_ready (rs := [4]) (by kernel_rfl) (by simp) ?_
  refine AllReadyH.cons rfl (fun K hK => ?_) AllReadyH.nil
  go_simp
  go_wp2_with fail
  refine (HI.out _).mono ?_
  rintro e u4 ⟨rfl, rfl⟩
  refine hK.out _ _ hHeld (fun _ => ?_)
  clear hK K
  refine wpAnyH_done (by kernel_rfl) ?_ _
  obtain ⟨hz, hb, y0, y1, y2, hne⟩ := HV.out _ bw
  have z0 : u4.cell? ⟨w.heap.size, 0, none⟩ = some (.int .u8 0) := by rw [World.cell?, hz]; rfl
  have z1 : u4.cell? ⟨w.heap.size, 1, none⟩ = some (.int .i64 0) := by rw [World.cell?, hz]; rfl
  have z2 : u4.cell? ⟨w.heap.size, 2, none⟩ = some (.string ⟨#[]⟩) := by rw [World.cell?, hz]; rfl
  have zf : ∀ k, u4.frozen? ⟨w.heap.size, k, none⟩ = false := Lib.frozen_of_heap hz
  have hE2 := HE.out.below hb
  have hBy : u4.cell? ⟨1, 0, none⟩ = some (erv es 3) := hE2.bytes
  have hlb : 1 < w.heap.size := World.block_lt_of_cell? w _ HE.out.bytes
  have hn1 : ¬ 1 = w.heap.size := by omega
  have hn2 : ¬ w.heap.size = 1 := by omega
  have hcs : ∀ v, (u4.setCell ⟨w.heap.size, 0, none⟩ v).cell? ⟨1, 0, none⟩ = some (erv es 3) := fun v => by rw [World.cell?_setCell_other _ _ _ _ (fun h => hn2 (congrArg Addr.block h))]; exact hBy
  have HB : Hid (Below w.heap.size w u4) := hb
  clear hlb
  clear tf0 tf1 tf2 tg HC HI HV HE hHeld bw hz hb hE2
  go_wp2
  go_region
  all_goals
    go_wp2
    refine bodyPost_ret (v := .tuple #[argV 0 0 [], .int .i64 0, erv es 3]) ?_ rfl ⟨rfl, ?_⟩
    · simp [results, Tryd.results30, go_sem, argV, z0, z1, z2]
    · exact (below_set3 HB.out _ _ _).drew

set_option maxRecDepth 100000 in
set_option maxHeartbeats 2000000 in
theorem getArg_ok (w : World) (a : Option Addr) (n c : Nat) (p : Int) (z : Nat) (N : Int) (s : List UInt8) (hs : s.length ≤ 1152921504606846976) (m : Nat) (es : List Addr) (hE : E4 w es) (hk : suchB z N s = true)
    (H : Calls Tryd.prog 40 #[.slice a n c, .int .i64 p, .int .u8 z] (wA w) fun e w' => e = .returned (.tuple #[argV z N s, .int .i64 m, .nilIface]) ∧ Below (wA w).heap.size (wA w) w') :
    Calls Tryd.prog 30 #[.slice a n c, .int .i64 p, .int .u8 z] w fun e w' => e = .returned (.tuple #[argV z N s, .int .i64 m, .nilIface]) ∧ Below w.heap.size w w' := by
  have H' : Hid (Calls Tryd.prog 40 #[.slice a n c, .int .i64 p, .int .u8 z] (wA w) fun e w' => e = .returned (.tuple #[.agg #[.int .u8 z, .int .i64 N, .string ⟨s.toArray⟩], .int .i64 m, .nilIface]) ∧ w'.heap[w.heap.size]? = some (.cells #[.int .u8 0, .int .i64 0, .string ⟨#[]⟩] 60 (0, 0)) ∧ Below w.heap.size w w') := by
    refine H.mono ?_
    rintro e w' ⟨rfl, hb⟩
    exact ⟨rfl, wA_keeps hb⟩
  have HE : Hid (E4 w es) := hE
  have HK : Hid (∀ u, Below w.heap.size w u → Calls Tryd.prog 35 #[.agg #[.int .u8 z, .int .i64 N, .string ⟨s.toArray⟩], .int .u8 z] u fun e w' => e = .returned (.nilIface) ∧ Below u.heap.size u w') := fun u hu => by
    refine (checkArg_any z N ⟨s.toArray⟩ (by show s.length ≤ _; exact hs) z u es (hE.below hu).arg).mono ?_
    rintro e w' ⟨rfl, hb⟩
    refine ⟨?_, hb⟩
    have e1 : okArg z N (ByteArray.mk s.toArray).data.toList z = true := by
      show (decide (z = z) && suchB z N s) = _
      rw [hk]
      simp
    rw [e1]
    rfl
  have HI : Hid (∀ u, Calls Tryd.prog 34 #[.nilIface, .iface 106 (.pointer (some (es.getD 0 ⟨0, 0, none⟩)))] u fun e w' => e = .returned (.bool false) ∧ w' = u) := fun u => Is_nil u _
  clear H hE hk hs
  go_enter Tryd.func30, Tryd.ntmps30
  go_wp2_with fail
  refine H'.out.mono ?_
  rintro e w1 ⟨rfl, hz, hb⟩
  have HZ1 : Hid (w1.heap[w.heap.size]? = some (.cells #[.int .u8 0, .int .i64 0, .string ⟨#[]⟩] 60 (0, 0))) := hz
  have HB1 : Hid (Below w.heap.size w w1) := hb
  clear hz hb H'
  go_wp2_with fail
  have bV : Below w1.heap.size w1 (w1.alloc (.cells #[.int .u8 z, .int .i64 N, .string ⟨s.toArray⟩] 60)) := (Below.refl _ _).alloc (Nat.le_refl _) _
  have tf0 : ∀ u, Below (w1.alloc (.cells #[.int .u8 z, .int .i64 N, .string ⟨s.toArray⟩] 60)).heap.size (w1.alloc (.cells #[.int .u8 z, .int .i64 N, .string ⟨s.toArray⟩] 60)) u → u.cell? ⟨w1.heap.size, 0, none⟩ = some (.int .u8 z) := fun u hu => by rw [hu.cell (by simp)]; simp
  have tf1 : ∀ u, Below (w1.alloc (.cells #[.int .u8 z, .int .i64 N, .string ⟨s.toArray⟩] 60)).heap.size (w1.alloc (.cells #[.int .u8 z, .int .i64 N, .string ⟨s.toArray⟩] 60)) u → u.cell? ⟨w1.heap.size, 1, none⟩ = some (.int .i64 N) := fun u hu => by rw [hu.cell (by simp)]; simp
  have tf2 : ∀ u, Below (w1.alloc (.cells #[.int .u8 z, .int .i64 N, .string ⟨s.toArray⟩] 60)).heap.size (w1.alloc (.cells #[.int .u8 z, .int .i64 N, .string ⟨s.toArray⟩] 60)) u → u.cell? ⟨w1.heap.size, 2, none⟩ = some (.string ⟨s.toArray⟩) := fun u hu => by rw [hu.cell (by simp)]; simp
  have tg : ∀ u, Below (w1.alloc (.cells #[.int .u8 z, .int .i64 N, .string ⟨s.toArray⟩] 60)).heap.size (w1.alloc (.cells #[.int .u8 z, .int .i64 N, .string ⟨s.toArray⟩] 60)) u → u.cell? ⟨2, 0, none⟩ = some (.iface 106 (.pointer (some (es.getD 0 ⟨0, 0, none⟩)))) := fun u hu => (HE.out.below (Below.on HB1.out (bV.trans (hu.mono bV.size)))).arg
  have HC : Hid (∀ u, Below (w1.alloc (.cells #[.int .u8 z, .int .i64 N, .string ⟨s.toArray⟩] 60)).heap.size (w1.alloc (.cells #[.int .u8 z, .int .i64 N, .string ⟨s.toArray⟩] 60)) u → Calls Tryd.prog 35 #[.agg #[.int .u8 z, .int .i64 N, .string ⟨s.toArray⟩], .int .u8 z] u fun e w' => e = .returned (.nilIface) ∧ Below u.heap.size u w') := fun u hu => HK.out u (Below.on HB1.out (bV.trans (hu.mono bV.size)))
  have HV : Hid (∀ u, Below (w1.alloc (.cells #[.int .u8 z, .int .i64 N, .string ⟨s.toArray⟩] 60)).heap.size (w1.alloc (.cells #[.int .u8 z, .int .i64 N, .string ⟨s.toArray⟩] 60)) u → u.heap[w.heap.size]? = some (.cells #[.int .u8 0, .int .i64 0, .string ⟨#[]⟩] 60 (0, 0)) ∧ Below w.heap.size w u ∧ u.cell? ⟨w1.heap.size, 0, none⟩ = some (.int .u8 z) ∧ u.cell? ⟨w1.heap.size, 1, none⟩ = some (.int .i64 N) ∧ u.cell? ⟨w1.heap.size, 2, none⟩ = some (.string ⟨s.toArray⟩) ∧ w.heap.size ≠ w1.heap.size) := fun u hu => by
    have hb := bV.trans (hu.mono bV.size)
    have hl := (Array.getElem?_eq_some_iff.1 HZ1.out).1
    exact ⟨by rw [hb.block _ hl]; exact HZ1.out, Below.on HB1.out hb, tf0 u hu, tf1 u hu, tf2 u hu, by omega⟩
  clear HK bV
  generalize w1.alloc (.cells #[.int .u8 z, .int .i64 N, .string ⟨s.toArray⟩] 60) = V at *
  refine wp_region_held_drew (S := fun x => Below V.heap.size V x) (by kernel_rfl) (Below.refl _ _).drew (fun hHeld => ?_)
  have hHeld : Below V.heap.size V V.drew := hHeld
  have bw : Below V.heap.size V V.drew := (Below.refl _ _).drew
  refine wpAnyH_take (i := 0) (v := ?_) rfl (by kernel_rfl) (by kernel_rfl) (by kernel_rfl) (fun _ _ _ h => h) (Or.inl ⟨by kernel_rfl, ?hy0⟩) (by assumption) ?_
  case hy0 => (intro w hSw; (try dsimp only at hSw); go_simp; try with_reducible rfl)
  try simp only [Act.put, List.getElem_toArray, List.getElem_cons_zero, List.setIfInBounds_toArray, List.set_cons_zero, List.set_cons_succ]
  refine wpAnyH_take (i := 1) (v := ?_) rfl (by kernel_rfl) (by kernel_rfl) (by kernel_rfl) (fun _ _ _ h => h) (Or.inl ⟨by kernel_rfl, ?hy1⟩) (by assumption) ?_
  case hy1 => (intro w hSw; (try dsimp only at hSw); go_simp; try with_reducible rfl)
  try simp only [Act.put, List.getElem_toArray, List.getElem_cons_zero, List.getElem_cons_succ, List.setIfInBounds_toArray, List.set_cons_zero, List.set_cons_succ]
  refine wpAnyH_take (i := 3) (v := ?_) rfl (by kernel_rfl) (by kernel_rfl) (by kernel_rfl) (fun _ _ _ h => h) (Or.inl ⟨by kernel_rfl, ?hy3⟩) (by assumption) ?_
  case hy3 => (intro w hSw; (try dsimp only at hSw); go_simp; try with_reducible rfl)
  try simp only [Act.put, List.getElem_toArray, List.getElem_cons_zero, List.getElem_cons_succ, List.setIfInBounds_toArray, List.set_cons_zero, List.set_cons_succ]
  refine wpAnyH_ready (rs := [2]) (by kernel_rfl) (by simp) ?_
  refine AllReadyH.cons rfl (fun K hK => ?_) AllReadyH.nil
  go_simp
  go_wp2_with fail
  refine (HC.out _ bw).mono ?_
  rintro e u2 ⟨rfl, hb⟩
  have hS' := Below.on hHeld hb
  refine hK.out _ _ hS' (fun _ => ?_)
  clear hK K
  refine wpAnyH_mono (S' := fun x => Below u2.heap.size u2 x) (fun x hx => Below.on hS' hx) ?_
  replace bw := Below.on bw hb
  replace tf0 := fun x hx => tf0 x (Below.on hS' hx)
  replace tf1 := fun x hx => tf1 x (Below.on hS' hx)
  replace tf2 := fun x hx => tf2 x (Below.on hS' hx)
  replace tg := fun x hx => tg x (Below.on hS' hx)
  clear hHeld hb hS'
  have hHeld : Below u2.heap.size u2 u2 := Below.refl _ _
  refine wpAnyH_ready (rs := [4]) (by kernel_rfl) (by simp) ?_
  refine AllReadyH.cons rfl (fun K hK => ?_) AllReadyH.nil
  go_simp
  go_wp2_with fail
  refine (HI.out _).mono ?_
  rintro e u4 ⟨rfl, rfl⟩
  refine hK.out _ _ hHeld (fun _ => ?_)
  clear hK K
  refine wpAnyH_done (by kernel_rfl) ?_ _
  obtain ⟨hz, hb, y0, y1, y2, hne⟩ := HV.out _ bw
  have z0 : u4.cell? ⟨w.heap.size, 0, none⟩ = some (.int .u8 0) := by rw [World.cell?, hz]; rfl
  have z1 : u4.cell? ⟨w.heap.size, 1, none⟩ = some (.int .i64 0) := by rw [World.cell?, hz]; rfl
  have z2 : u4.cell? ⟨w.heap.size, 2, none⟩ = some (.string ⟨#[]⟩) := by rw [World.cell?, hz]; rfl
  have zf : ∀ k, u4.frozen? ⟨w.heap.size, k, none⟩ = false := Lib.frozen_of_heap hz
  have hE2 := HE.out.below hb
  have hBy : u4.cell? ⟨1, 0, none⟩ = some (erv es 3) := hE2.bytes
  have hlb : 1 < w.heap.size := World.block_lt_of_cell? w _ HE.out.bytes
  have hn1 : ¬ 1 = w.heap.size := by omega
  have hn2 : ¬ w.heap.size = 1 := by omega
  have hcs : ∀ v, (u4.setCell ⟨w.heap.size, 0, none⟩ v).cell? ⟨1, 0, none⟩ = some (erv es 3) := fun v => by rw [World.cell?_setCell_other _ _ _ _ (fun h => hn2 (congrArg Addr.block h))]; exact hBy
  have HB : Hid (Below w.heap.size w u4) := hb
  clear hlb
  clear tf0 tf1 tf2 tg HC HI HV HE hHeld bw hz hb hE2
  go_wp2
  refine bodyPost_ret (v := .tuple #[argV z N s, .int .i64 m, .nilIface]) ?_ rfl ⟨rfl, ?_⟩
  · simp [results, Tryd.results30, go_sem, argV, z0, z1, z2]
  · exact below_set3 HB.out _ _ _
end Go.Proofs.YtoggnfadfocogaaDoor
