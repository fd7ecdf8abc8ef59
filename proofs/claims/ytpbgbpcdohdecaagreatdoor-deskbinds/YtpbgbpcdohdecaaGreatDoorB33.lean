/- Lemmas that the proof leans on. -/
import Derived.Test.YtpbgbpcdohdecaaGreatDoorB32
namespace Go.Proofs.YtpbgbpcdohdecaaGreatDoor
open Go Go.RowKit
set_option maxRecDepth 100000
set_option maxHeartbeats 2000000
section
open Go Go.RowKit Go.Extern
theorem AsEnds_FtD.of {w w2 w' : World} {F : Option Nat} {t : Addr} {e : Ending} (h : AsEnds_FtD w2 F t e w') (hb : Below w.heap.size w w2) (ht : t.block ≤ w.heap.size) : AsEnds_FtD w F t e w' := by
 cases F with
 | none => exact ⟨h.1, hb.trans (h.2.mono hb.size)⟩
 | some b => exact ⟨h.1, (hb.mono ht).trans h.2.1, h.2.2⟩
theorem AsEnds_FtD.ret {w w' : World} {F : Option Nat} {t : Addr} {e : Ending} (h : AsEnds_FtD w F t e w') : e = .returned (.bool F.isSome) := by
 cases F <;> exact h.1
abbrev wV_FtE (w : World) (t : Addr) : World := w.alloc (.cells #[.pointer (some t)] 140)
abbrev wU_FtE (w : World) (t : Addr) : World := (wV_FtE w t).alloc (.cells #[.pointer (some ⟨19, 140, none⟩), .pointer (some ⟨w.heap.size, 0, none⟩), .int .u64 150] 194)
def Aty (w : World) : Prop := w.cell? ⟨16, 0, none⟩ = some (.iface 223 (.agg #[.pointer (some ⟨19, 24, none⟩)]))
theorem Aty.below {w w' : World} (h : Aty w) (hb : Below w.heap.size w w') : Aty w' := by
 rw [Aty, hb.cell (World.block_lt_of_cell? w _ h)]
 exact h
theorem As_chain_FtE (w : World) (L v : Value) (F : Option Nat) (t : Addr) (old : Value) (h : Ch_FtA w L v F) (ha : Aty w) (ht : w.cell? t = some old) (hf : w.frozen? t = false) :
  Calls Tryz.prog 50 #[v, .iface 140 (.pointer (some t))] w (AsEnds_FtD w F t) := by
 have h28 := @run_callFunc_extern Tryz.prog 93 _ (fun args => ReflectliteValue.unpack (args.getD 0 (.tuple #[]))) Tryz.func93 (by kernel_rfl) (by kernel_rfl) (by kernel_rfl) (by kernel_rfl)
 have h29 := @run_callFunc_extern Tryz.prog 94 _ (ReflectliteValue.methodAny (ReflectliteValue.valueError "reflectlite.Value.Type" 0) (fun t _ _ _ => ReflectliteType.toType t)) Tryz.func94 (by kernel_rfl) (by kernel_rfl) (by kernel_rfl) (by kernel_rfl)
 have h30 := @run_callFunc_extern Tryz.prog 95 _ (ReflectliteValue.method (ReflectliteValue.valueError "reflectlite.Value.IsNil" 0) ReflectliteValue.isNil) Tryz.func95 (by kernel_rfl) (by kernel_rfl) (by kernel_rfl) (by kernel_rfl)
 have h48 := @run_callFunc_extern Tryz.prog 324 _ (ReflectliteType.abiMethod fun t => do pure (.int .u8 (← Rtype.kind t))) Tryz.func324 (by kernel_rfl) (by kernel_rfl) (by kernel_rfl) (by kernel_rfl)
 have h65 := @run_callFunc_extern Tryz.prog 339 _ (ReflectliteType.method ReflectliteType.elem) Tryz.func339 (by kernel_rfl) (by kernel_rfl) (by kernel_rfl) (by kernel_rfl)
 have h66 := @run_callFunc_extern Tryz.prog 340 _ (ReflectliteType.relation "Implements" ReflectliteType.implements_) Tryz.func340 (by kernel_rfl) (by kernel_rfl) (by kernel_rfl) (by kernel_rfl)
 have f6 := asValueOf_FtC
 have f7 := asType_FtC
 have mK := asMethodKind_FtC
 have mE := asMethodElem_FtC
 have mI := asMethodImplements_FtC
 have k1 := asKindPP_FtC
 have k2 := asKindP_FtC
 have e1 := asElem_FtC
 have i1 := asImplements_FtC
 have hlt : t.block < w.heap.size := World.block_lt_of_cell? w _ ht
 have bV : Below w.heap.size w (wU_FtE w t) := ((Below.refl _ _).alloc (Nat.le_refl _) _).alloc (by simp) _
 have hg : (wU_FtE w t).cell? ⟨16, 0, none⟩ = some (.iface 223 (.agg #[.pointer (some ⟨19, 24, none⟩)])) := ha.below bV
 have n8 := asIsNil_FtC ⟨w.heap.size, 0, none⟩ t (wU_FtE w t) (by rw [World.cell?_alloc_lt _ _ _ (by simp), World.cell?_alloc_at _ _ _ _ (by simp)]; rfl)
 have HC : Hid (∀ _ : Unit, Calls Tryz.prog 96 #[v, .iface 140 (.pointer (some t)), rvPP_FtC ⟨w.heap.size, 0, none⟩, rtP_FtC] (wU_FtE w t) (AsEnds_FtD (wU_FtE w t) F t)) := fun _ =>
  as_chain_FtD (wU_FtE w t) L v F t ⟨w.heap.size, 0, none⟩ old (h.stays bV) (by rw [World.cell?_alloc_lt _ _ _ (by simp), World.cell?_alloc_at _ _ _ _ (by simp)]; rfl)
   (by rw [World.cell?_alloc_lt _ _ t (by simp; omega), World.cell?_alloc_lt _ _ t hlt]; exact ht)
   (by rw [World.frozen?_alloc_old _ _ t (by simp; omega), World.frozen?_alloc_old _ _ t (Nat.ne_of_lt hlt)]; exact hf)
 have HB : Hid (Below w.heap.size w (wU_FtE w t)) := bV
 have HL : Hid (t.block ≤ w.heap.size) := Nat.le_of_lt hlt
 obtain ⟨tv, q, rfl⟩ := h.iface
 clear h ha ht hf hlt bV
 go_enter Tryz.func50, Tryz.ntmps50
 go_wp2_with (go_at_call 96; refine (HC.out ()).mono ?_; rintro e w' he; obtain rfl := he.ret; have HE : Hid (AsEnds_FtD w F t (.returned (.bool F.isSome)) w') := AsEnds_FtD.of he HB.out HL.out; clear he)
 go_ret
 exact HE.out
abbrev wP_FtE (w : World) : World := w.alloc (.cells #[.pointer none] 138)
theorem wP_below_FtE (w : World) : Below w.heap.size w (wP_FtE w) := (Below.refl _ _).alloc (Nat.le_refl _) _
theorem wP_cell_FtE (w : World) : (wP_FtE w).cell? ⟨w.heap.size, 0, none⟩ = some (.pointer none) := by rw [World.cell?_alloc_at _ _ _ _ rfl]; rfl
theorem wP_frozen_FtE (w : World) : (wP_FtE w).frozen? ⟨w.heap.size, 0, none⟩ = false := by simp [wP_FtE]
theorem As_var_FtE (w : World) (L v : Value) (F : Option Nat) (h : Ch_FtA w L v F) (ha : Aty w) :
  Calls Tryz.prog 50 #[v, .iface 140 (.pointer (some ⟨w.heap.size, 0, none⟩))] (wP_FtE w) (AsEnds_FtD (wP_FtE w) F ⟨w.heap.size, 0, none⟩) :=
 As_chain_FtE (wP_FtE w) L v F ⟨w.heap.size, 0, none⟩ (.pointer none) (h.stays (wP_below_FtE w)) (ha.below (wP_below_FtE w)) (wP_cell_FtE w) (wP_frozen_FtE w)
end
section
def kindsAt_FtG (es : List Addr) : Value := .agg #[.nilIface, erv es 1, erv es 2, erv es 3, erv es 4, erv es 5, erv es 6, erv es 7, erv es 8, erv es 9, erv es 10, erv es 11, erv es 12, erv es 13, erv es 14, erv es 15, erv es 16]
abbrev wK_FtG (w : World) : World := w.alloc (.cells #[.nilIface, .nilIface, .nilIface, .nilIface, .nilIface, .nilIface, .nilIface, .nilIface, .nilIface, .nilIface, .nilIface, .nilIface, .nilIface, .nilIface, .nilIface, .nilIface, .nilIface] 267)
theorem kinds_all_FtG (w : World) (es : List Addr) (h : Errs w gerrs es) :
  Calls Tryz.prog 156 #[] w fun e w' => e = .returned (kindsAt_FtG es) ∧ Below w.heap.size w w' := by
 obtain ⟨x0, x1, x2, x3, x4, x5, x6, x7, x8, x9, x10, x11, x12, x13, x14, x15, rfl⟩ := len16 h.len
 have h' := h.below (w' := wK_FtG w) ((Below.refl _ _).alloc (Nat.le_refl _) _)
 have c0 := (h'.each 0 _ _ rfl rfl).1
 have c1 := (h'.each 1 _ _ rfl rfl).1
 have c2 := (h'.each 2 _ _ rfl rfl).1
 have c3 := (h'.each 3 _ _ rfl rfl).1
 have c4 := (h'.each 4 _ _ rfl rfl).1
 have c5 := (h'.each 5 _ _ rfl rfl).1
 have c6 := (h'.each 6 _ _ rfl rfl).1
 have c7 := (h'.each 7 _ _ rfl rfl).1
 have c8 := (h'.each 8 _ _ rfl rfl).1
 have c9 := (h'.each 9 _ _ rfl rfl).1
 have c10 := (h'.each 10 _ _ rfl rfl).1
 have c11 := (h'.each 11 _ _ rfl rfl).1
 have c12 := (h'.each 12 _ _ rfl rfl).1
 have c13 := (h'.each 13 _ _ rfl rfl).1
 have c14 := (h'.each 14 _ _ rfl rfl).1
 have c15 := (h'.each 15 _ _ rfl rfl).1
 clear h h'
 go_enter Tryz.func156, Tryz.ntmps156
 go_wp2
 refine bodyPost_ret (v := kindsAt_FtG [x0, x1, x2, x3, x4, x5, x6, x7, x8, x9, x10, x11, x12, x13, x14, x15]) ?_ rfl ⟨rfl, (Below.refl _ _).alloc (Nat.le_refl _) _⟩
 simp [results, Tryz.results156, go_sem, kindsAt_FtG, erv]
def Leaf_FtG (w : World) (es : List Addr) (L : Value) (k : Nat) : Prop :=
 (k = 0 ∧ L = .nilIface) ∨ (1 ≤ k ∧ k ≤ 16 ∧ L = erv es k) ∨ (k = 17 ∧ ∃ a, L = eS_FtA a ∧ a ∉ es ∧ ∃ c t, w.heap[a.block]? = some (.cells c t (0, 0)))
theorem erv_at_FtG {w : World} {es : List Addr} (h : Errs w gerrs es) {j : Nat} (h1 : 1 ≤ j) (h2 : j ≤ 16) : ∃ x, erv es j = eS_FtA x ∧ es[j - 1]? = some x ∧ ∃ c t, w.heap[x.block]? = some (.cells c t (0, 0)) := by
 obtain ⟨i, rfl⟩ : ∃ i, j = i + 1 := ⟨j - 1, by omega⟩
 have hl : i < es.length := by rw [h.len]; exact h2
 refine ⟨es[i], ?_, List.getElem?_eq_getElem hl, ?_⟩
 ·show Value.iface _ _ = Value.iface _ _
  rw [List.getD, List.getElem?_eq_getElem hl]
  rfl
 ·exact (h.each i _ _ (List.getElem?_eq_getElem (by rw [← h.len]; exact hl)) (List.getElem?_eq_getElem hl)).2
theorem Is_kind_FtG (w : World) (es : List Addr) (h : Errs w gerrs es) (L v : Value) (F : Option Nat) (k j : Nat) (hc : Ch_FtA w L v F) (hk : Leaf_FtG w es L k) (h1 : 1 ≤ j) (h2 : j ≤ 16) :
  Calls Tryz.prog 32 #[v, erv es j] w fun e w' => e = .returned (.bool (decide (k = j))) ∧ Below w.heap.size w w' := by
 obtain ⟨x, hx, hj, hxb⟩ := erv_at_FtG h h1 h2
 rw [hx]
 refine Is_chain_FtA w L v F x hc ?_ _ ?_
 ·rintro a rfl hne
  rcases hk with ⟨_, hL⟩ | ⟨hk1, hk2, hL⟩ | ⟨_, a', hL, _, ha⟩
  ·cases hL
  ·obtain ⟨y, hy, _, hyb⟩ := erv_at_FtG h hk1 hk2
   rw [hy] at hL
   injection hL with _ hL; injection hL with hL; injection hL with hL
   subst hL
   exact ⟨hyb, hxb⟩
  ·injection hL with _ hL; injection hL with hL; injection hL with hL
   subst hL
   exact ⟨ha, hxb⟩
 ·rw [decide_eq_true_iff]
  rcases hk with ⟨rfl, rfl⟩ | ⟨hk1, hk2, rfl⟩ | ⟨rfl, a', rfl, ha, _⟩
  ·exact ⟨fun e => by omega, fun e => by cases e⟩
  ·obtain ⟨y, hy, hyj, _⟩ := erv_at_FtG h hk1 hk2
   constructor
   ·rintro rfl; exact hx
   ·intro e
    rw [hy] at e
    injection e with _ e; injection e with e; injection e with e
    subst e
    have := nodup_at h.nodup hyj hj
    omega
  ·refine ⟨fun e => by omega, fun e => ?_⟩
   injection e with _ e; injection e with e; injection e with e
   subst e
   exact absurd (List.mem_of_getElem? hj) ha
theorem Leaf_FtG.stays {w w' : World} {es : List Addr} {L : Value} {k : Nat} (h : Leaf_FtG w es L k) (hb : Below w.heap.size w w') : Leaf_FtG w' es L k := by
 rcases h with h | h | ⟨h1, a, h2, h3, c, t, h4⟩
 ·exact .inl h
 ·exact .inr (.inl h)
 ·exact .inr (.inr ⟨h1, a, h2, h3, c, t, by rw [hb.block _ (Array.getElem?_eq_some_iff.1 h4).1]; exact h4⟩)
theorem fIs_kind_FtG (w : World) (es : List Addr) (h : Errs w gerrs es) (L v : Value) (F : Option Nat) (k j : Nat) (hc : Ch_FtA w L v F) (hk : Leaf_FtG w es L k) (h1 : 1 ≤ j) (h2 : j ≤ 16) :
  Calls Tryz.prog 157 #[v, erv es j] w fun e w' => e = .returned (.bool (decide (k = j))) ∧ Below w.heap.size w w' :=
 fIs_FtB w v (erv es j) _ fun w' hb => (Is_kind_FtG w' es (h.below hb) L v F k j (hc.stays hb) (hk.stays hb) h1 h2).mono fun _ _ ⟨h3, h4⟩ => ⟨h3, h4⟩
def kindOf_FtG (k : Nat) : Nat := if k = 0 then 17 else k
end
section
theorem kinds_index0_FtH (es : List Addr) (w : World) : (Instr.index 267 (kindsAt_FtG es) (.int .i64 0)).run Tryz.prog w = .ok (erv es 0) w := by kernel_rfl
theorem kinds_index1_FtH (es : List Addr) (w : World) : (Instr.index 267 (kindsAt_FtG es) (.int .i64 1)).run Tryz.prog w = .ok (erv es 1) w := by kernel_rfl
theorem kinds_index2_FtH (es : List Addr) (w : World) : (Instr.index 267 (kindsAt_FtG es) (.int .i64 2)).run Tryz.prog w = .ok (erv es 2) w := by kernel_rfl
theorem kinds_index3_FtH (es : List Addr) (w : World) : (Instr.index 267 (kindsAt_FtG es) (.int .i64 3)).run Tryz.prog w = .ok (erv es 3) w := by kernel_rfl
theorem kinds_index4_FtH (es : List Addr) (w : World) : (Instr.index 267 (kindsAt_FtG es) (.int .i64 4)).run Tryz.prog w = .ok (erv es 4) w := by kernel_rfl
theorem kinds_index5_FtH (es : List Addr) (w : World) : (Instr.index 267 (kindsAt_FtG es) (.int .i64 5)).run Tryz.prog w = .ok (erv es 5) w := by kernel_rfl
theorem kinds_index6_FtH (es : List Addr) (w : World) : (Instr.index 267 (kindsAt_FtG es) (.int .i64 6)).run Tryz.prog w = .ok (erv es 6) w := by kernel_rfl
theorem kinds_index7_FtH (es : List Addr) (w : World) : (Instr.index 267 (kindsAt_FtG es) (.int .i64 7)).run Tryz.prog w = .ok (erv es 7) w := by kernel_rfl
theorem kinds_index8_FtH (es : List Addr) (w : World) : (Instr.index 267 (kindsAt_FtG es) (.int .i64 8)).run Tryz.prog w = .ok (erv es 8) w := by kernel_rfl
theorem kinds_index9_FtH (es : List Addr) (w : World) : (Instr.index 267 (kindsAt_FtG es) (.int .i64 9)).run Tryz.prog w = .ok (erv es 9) w := by kernel_rfl
theorem kinds_index10_FtH (es : List Addr) (w : World) : (Instr.index 267 (kindsAt_FtG es) (.int .i64 10)).run Tryz.prog w = .ok (erv es 10) w := by kernel_rfl
theorem kinds_index11_FtH (es : List Addr) (w : World) : (Instr.index 267 (kindsAt_FtG es) (.int .i64 11)).run Tryz.prog w = .ok (erv es 11) w := by kernel_rfl
theorem kinds_index12_FtH (es : List Addr) (w : World) : (Instr.index 267 (kindsAt_FtG es) (.int .i64 12)).run Tryz.prog w = .ok (erv es 12) w := by kernel_rfl
theorem kinds_index13_FtH (es : List Addr) (w : World) : (Instr.index 267 (kindsAt_FtG es) (.int .i64 13)).run Tryz.prog w = .ok (erv es 13) w := by kernel_rfl
theorem kinds_index14_FtH (es : List Addr) (w : World) : (Instr.index 267 (kindsAt_FtG es) (.int .i64 14)).run Tryz.prog w = .ok (erv es 14) w := by kernel_rfl
theorem kinds_index15_FtH (es : List Addr) (w : World) : (Instr.index 267 (kindsAt_FtG es) (.int .i64 15)).run Tryz.prog w = .ok (erv es 15) w := by kernel_rfl
theorem kinds_index16_FtH (es : List Addr) (w : World) : (Instr.index 267 (kindsAt_FtG es) (.int .i64 16)).run Tryz.prog w = .ok (erv es 16) w := by kernel_rfl
theorem kinds_index_FtH (es : List Addr) (j : Nat) (hj : j ≤ 16) (w : World) : (Instr.index 267 (kindsAt_FtG es) (.int .i64 j)).run Tryz.prog w = .ok (erv es j) w := by
 have h : j = 0 ∨ j = 1 ∨ j = 2 ∨ j = 3 ∨ j = 4 ∨ j = 5 ∨ j = 6 ∨ j = 7 ∨ j = 8 ∨ j = 9 ∨ j = 10 ∨ j = 11 ∨ j = 12 ∨ j = 13 ∨ j = 14 ∨ j = 15 ∨ j = 16 := by omega
 rcases h with rfl | rfl | rfl | rfl | rfl | rfl | rfl | rfl | rfl | rfl | rfl | rfl | rfl | rfl | rfl | rfl | rfl
 ·exact kinds_index0_FtH es w
 ·exact kinds_index1_FtH es w
 ·exact kinds_index2_FtH es w
 ·exact kinds_index3_FtH es w
 ·exact kinds_index4_FtH es w
 ·exact kinds_index5_FtH es w
 ·exact kinds_index6_FtH es w
 ·exact kinds_index7_FtH es w
 ·exact kinds_index8_FtH es w
 ·exact kinds_index9_FtH es w
 ·exact kinds_index10_FtH es w
 ·exact kinds_index11_FtH es w
 ·exact kinds_index12_FtH es w
 ·exact kinds_index13_FtH es w
 ·exact kinds_index14_FtH es w
 ·exact kinds_index15_FtH es w
 ·exact kinds_index16_FtH es w
theorem fkind_chain_FtH (w : World) (es : List Addr) (h : Errs w gerrs es) (L v : Value) (F : Option Nat) (k : Nat) (hc : Ch_FtA w L v F) (hk : Leaf_FtG w es L k) :
  Calls Tryz.prog 97 #[v] w fun e w' => e = .returned (.int .i64 (kindOf_FtG k : Nat)) ∧ Below w.heap.size w w' := by
 obtain ⟨t, q, rfl⟩ := hc.iface
 have HK : Hid (∀ _ : Unit, Calls Tryz.prog 156 #[] w fun e w' => e = .returned (kindsAt_FtG es) ∧ Below w.heap.size w w') := fun _ => kinds_all_FtG w es h
 have HI : Hid (∀ (j : Nat) (w' : World), 1 ≤ j → j ≤ 16 → Below w.heap.size w w' → Calls Tryz.prog 157 #[.iface t q, erv es j] w' fun e w'' => e = .returned (.bool (decide (k = j))) ∧ Below w.heap.size w w'') := fun j w' h1 h2 hb => by
  refine (fIs_kind_FtG w' es (h.below hb) L _ F k j (hc.stays hb) (hk.stays hb) h1 h2).mono ?_
  rintro e w'' ⟨h1, h2⟩
  exact ⟨h1, hb.trans (h2.mono hb.size)⟩
 have HZ : Hid (k ≤ 17) := by
  show k ≤ 17
  rcases hk with ⟨h, _⟩ | ⟨_, h, _⟩ | ⟨h, _⟩ <;> omega
 clear h hc hk
 go_enter Tryz.func97, Tryz.ntmps97
 go_wp2_with (go_at_call 156; refine (HK.out ()).mono ?_; rintro e w1 ⟨rfl, hb⟩; have HB : Hid (Below w.heap.size w w1) := hb; clear hb)
 go_loopw [8] (fun i wr => ∃ j : Nat, (j ≤ 17 ∧ (1 ≤ k → k ≤ 16 → j ≤ k)) ∧ i = .int .i64 j ∧ Below w.heap.size w wr) (fun i _ => 17 - (RowKit.intOf i).toNat)
 case atStart => exact ⟨0, ⟨by omega, fun _ _ => by omega⟩, rfl, HB.out⟩
 case round =>
  obtain ⟨j, hj, rfl, hbel⟩ := hrel
  have HL : Hid (Below w.heap.size w wr) := hbel
  have HJ : Hid (j ≤ 17 ∧ (1 ≤ k → k ≤ 16 → j ≤ k)) := hj
  clear hbel hj HB
  by_cases h17 : j = 17
  ·subst h17
   go_wp2
   go_ret
   refine ⟨ret_int' ?_, HL.out⟩
   have h1 := HJ.out.2
   have h2 := HZ.out
   unfold kindOf_FtG
   split <;> omega
  ·have hlt : (j : Int) < 17 := by have := HJ.out.1; omega
   have hix := kinds_index_FtH es j (by omega)
   by_cases h0 : j = 0
   ·have h0' : decide ((j : Int) = 0) = true := by simp; omega
    rw [show erv es j = .nilIface by rw [h0]; rfl] at hix
    clear HI HK
    have hix0 : ∀ w, (Instr.index 267 (kindsAt_FtG es) (.int .i64 0)).run Tryz.prog w = .ok .nilIface w := kinds_index0_FtH es
    go_wp2
    go_round
    case rel => exact ⟨j + 1, ⟨by omega, fun h1 h2 => by omega⟩, by go_num, HL.out⟩
    case measure => simp [RowKit.intOf]; omega
   ·have hne : decide ((j : Int) = 0) = false := by simp; omega
    have h1 : 1 ≤ j := by omega
    have h2 : j ≤ 16 := by omega
    obtain ⟨x, hx⟩ : ∃ x, erv es j = eS_FtA x := by
     obtain ⟨i, rfl⟩ : ∃ i, j = i + 1 := ⟨j - 1, by omega⟩
     exact ⟨_, rfl⟩
    have HI' : Hid (Calls Tryz.prog 157 #[.iface t q, eS_FtA x] wr fun e w'' => e = .returned (.bool (decide (k = j))) ∧ Below w.heap.size w w'') := by
     show Calls _ _ _ _ _
     rw [← hx]
     exact HI.out j wr h1 h2 HL.out
    rw [hx] at hix
    clear hx
    by_cases hk : k = j
    ·have hd : Hid (decide (k = j) = true) := by show decide _ = true; simp [hk]
     go_wp2_with (go_at_call 157; refine HI'.out.mono ?_; rw [hd.out]; rintro e w2 ⟨rfl, hb⟩; have HB : Hid (Below w.heap.size w w2) := hb; clear hb)
     go_ret
     exact ⟨ret_int' (by unfold kindOf_FtG; split <;> omega), HB.out⟩
    ·have hd : Hid (decide (k = j) = false) := by show decide _ = false; simp [hk]
     go_wp2_with (go_at_call 157; refine HI'.out.mono ?_; rw [hd.out]; rintro e w2 ⟨rfl, hb⟩; have HB : Hid (Below w.heap.size w w2) := hb; clear hb)
     go_round
     case rel => exact ⟨j + 1, ⟨by omega, fun h1 h2 => by have := HJ.out.2 h1 h2; omega⟩, by go_num, HB.out⟩
     case measure => simp [RowKit.intOf]; omega
end
section
def codeOf_FtI : Nat → Int
 | 0 => 10 | 1 => 0 | 2 => 1 | 3 => 1 | 4 => 2 | 5 => 0 | 6 => 1 | 7 => 3 | 8 => 4 | 9 => 5 | 10 => 6 | 11 => 7 | 12 => 8 | 13 => 9 | 14 => 2 | _ => 10
theorem fcode_of_FtI (w : World) (v : Value) (K : Nat) (hK : K ≤ 17) (h : Calls Tryz.prog 97 #[v] w fun e w' => e = .returned (.int .i64 (K : Nat)) ∧ Below w.heap.size w w') :
  Calls Tryz.prog 52 #[v] w fun e w' => e = .returned (.int .i64 (codeOf_FtI K)) ∧ Below w.heap.size w w' := by
 have HC : Hid (Calls Tryz.prog 97 #[v] w fun e w' => e = .returned (.int .i64 (K : Nat)) ∧ Below w.heap.size w w') := h
 clear h
 have hk : K = 0 ∨ K = 1 ∨ K = 2 ∨ K = 3 ∨ K = 4 ∨ K = 5 ∨ K = 6 ∨ K = 7 ∨ K = 8 ∨ K = 9 ∨ K = 10 ∨ K = 11 ∨ K = 12 ∨ K = 13 ∨ K = 14 ∨ K = 15 ∨ K = 16 ∨ K = 17 := by omega
 clear hK
 rcases hk with rfl | rfl | rfl | rfl | rfl | rfl | rfl | rfl | rfl | rfl | rfl | rfl | rfl | rfl | rfl | rfl | rfl | rfl
 all_goals
  go_enter Tryz.func52, Tryz.ntmps52
  go_wp2_with (go_at_call 97; refine HC.out.mono ?_; rintro e w' ⟨rfl, hb⟩; have HB : Hid (Below w.heap.size w w') := hb; clear hb)
  go_ret
  exact ⟨rfl, HB.out⟩
def wordsX_FtI : List (List UInt8) := [[97, 114, 103, 117, 109, 101, 110, 116], [115, 104, 111, 114, 116], [98, 121, 116, 101, 115], [98, 105, 103], [111, 98, 106, 101, 99, 116], [109, 101, 116, 104, 111, 100], [102, 111, 114, 109, 97, 116], [115, 116, 114, 105, 100, 101], [102, 105, 108, 101], [114, 111, 108, 101], [112, 108, 97, 99, 101], [115, 116, 97, 116, 101], [115, 101, 114, 105, 97, 108], [102, 117, 108, 108], [103, 111, 110, 101], [115, 104, 101, 101, 116]]
theorem words_x_FtI : words = wordsX_FtI := by kernel_rfl
def wordsOf_FtI (k : Nat) : ByteArray := ⟨((([] : List UInt8) :: wordsX_FtI).getD k []).toArray⟩
theorem mErrorE_FtI (n : Nat) (v : Value) (w : World) : (Go.method (n + 1) 392 v "Error").run Tryz.prog w = .ok (347, v) w := by kernel_rfl
theorem mErrorN (n : Nat) (v : Value) (w : World) : (Go.method (n + 1) 182 v "Error").run Tryz.prog w = .ok (331, v) w := by kernel_rfl
theorem errorE_FtI (w : World) (a : Addr) (s : ByteArray) (h : w.cell? a = some (.string s)) : Calls Tryz.prog 347 #[.pointer (some a)] w fun e w' => e = .returned (.string s) ∧ w' = w := by
 go_enter Tryz.func347, Tryz.ntmps347
 go_wp2
 go_ret
 exact ⟨rfl, rfl⟩
theorem errorN (w : World) (a : Addr) (p : Int) (s : ByteArray) (h : w.cell? a = some (.string s)) : Calls Tryz.prog 331 #[.agg #[eS_FtA a, .int .i64 p]] w fun e w' => e = .returned (.string s) ∧ Below w.heap.size w w' := by
 have hm := mErrorE_FtI
 have HE := hid (fun u (hu : Below w.heap.size w u) => errorE_FtI u a s (by rw [hu.cell (World.block_lt_of_cell? w _ h)]; exact h))
 clear h
 go_enter Tryz.func331, Tryz.ntmps331
 go_wp2_with fail
 refine (HE.out _ ((Below.refl _ _).alloc (Nat.le_refl _) _)).mono ?_
 rintro e w1 ⟨rfl, rfl⟩
 go_wp2
 go_ret
 exact ⟨rfl, (Below.refl _ _).alloc (Nat.le_refl _) _⟩
abbrev wF_FtI (w : World) (o c : Int) (v : Value) : World := w.alloc (.cells #[.int .i64 o, .int .i64 c, .string ⟨#[]⟩, v] 202)
theorem wF_below_FtI (w : World) (o c : Int) (v : Value) : Below w.heap.size w (wF_FtI w o c v) := (Below.refl _ _).alloc (Nat.le_refl _) _
def Fa_FtI (w : World) (b : Nat) (o c : Int) (s : ByteArray) (v : Value) : Prop := w.heap[b]? = some (.cells #[.int .i64 o, .int .i64 c, .string s, v] 202 (0, 0))
theorem Fa_FtI.stays {w w' : World} {b : Nat} {o c : Int} {s : ByteArray} {v : Value} (h : Fa_FtI w b o c s v) (hb : Below w.heap.size w w') : Fa_FtI w' b o c s v := by
 show _ = _
 rw [hb.block _ (Array.getElem?_eq_some_iff.1 h).1]
 exact h
theorem heap_newO (w : World) (o : Obj) : (w.alloc o).heap[w.heap.size]? = some o := heap_alloc_new w o
theorem newf_leaf (w : World) (o c : Int) (q : Value) (s : ByteArray)
  (hC : Calls Tryz.prog 347 #[q] (wF_FtI w o c (.iface 392 q)) fun e w' => e = .returned (.string s) ∧ Below (wF_FtI w o c (.iface 392 q)).heap.size (wF_FtI w o c (.iface 392 q)) w') :
  Calls Tryz.prog 51 #[.int .i64 o, .int .i64 c, .iface 392 q] w fun e w' => e = .returned (eF_FtA w.heap.size) ∧ (Fa_FtI w' w.heap.size o c s (.iface 392 q) ∧ Below w.heap.size w w') := by
 have hm := mErrorE_FtI
 have HC : Hid (Calls Tryz.prog 347 #[q] (wF_FtI w o c (.iface 392 q)) fun e w' => e = .returned (.string s) ∧ (Fa_FtI w' w.heap.size o c ⟨#[]⟩ (.iface 392 q) ∧ Below w.heap.size w w')) := by
  show Calls _ _ _ _ _
  refine hC.mono ?_
  rintro e w' ⟨h1, h2⟩
  exact ⟨h1, Fa_FtI.stays (heap_newO _ _) h2, (wF_below_FtI w o c _).trans (h2.mono (wF_below_FtI w o c _).size)⟩
 clear hC
 go_enter Tryz.func51, Tryz.ntmps51
 go_wp2_with fail
 refine HC.out.mono ?_
 rintro e w1 ⟨rfl, hf, hb⟩
 have c2 : w1.cell? ⟨w.heap.size, 2, none⟩ = some (.string ⟨#[]⟩) := by rw [World.cell?, show w1.heap[w.heap.size]? = _ from hf]; rfl
 have f2 : w1.frozen? ⟨w.heap.size, 2, none⟩ = false := Lib.frozen_of_heap hf 2
 have HF : Hid (Fa_FtI w1 w.heap.size o c ⟨#[]⟩ (.iface 392 q)) := hf
 have HB : Hid (Below w.heap.size w w1) := hb
 clear hf hb
 go_wp2
 go_ret
 refine ⟨rfl, ?_, HB.out.setCell (p := ⟨w.heap.size, 2, none⟩) (Nat.le_refl _) _⟩
 have hf := HF.out
 unfold Fa_FtI at hf ⊢
 simp [World.setCell, Array.getElem?_modify, hf]
theorem newf_found (w : World) (o c : Int) (q : Value) (s : ByteArray)
  (hC : Calls Tryz.prog 331 #[q] (wF_FtI w o c (.iface 182 q)) fun e w' => e = .returned (.string s) ∧ Below (wF_FtI w o c (.iface 182 q)).heap.size (wF_FtI w o c (.iface 182 q)) w') :
  Calls Tryz.prog 51 #[.int .i64 o, .int .i64 c, .iface 182 q] w fun e w' => e = .returned (eF_FtA w.heap.size) ∧ (Fa_FtI w' w.heap.size o c s (.iface 182 q) ∧ Below w.heap.size w w') := by
 have hm := mErrorN
 have HC : Hid (Calls Tryz.prog 331 #[q] (wF_FtI w o c (.iface 182 q)) fun e w' => e = .returned (.string s) ∧ (Fa_FtI w' w.heap.size o c ⟨#[]⟩ (.iface 182 q) ∧ Below w.heap.size w w')) := by
  show Calls _ _ _ _ _
  refine hC.mono ?_
  rintro e w' ⟨h1, h2⟩
  exact ⟨h1, Fa_FtI.stays (heap_newO _ _) h2, (wF_below_FtI w o c _).trans (h2.mono (wF_below_FtI w o c _).size)⟩
 clear hC
 go_enter Tryz.func51, Tryz.ntmps51
 go_wp2_with fail
 refine HC.out.mono ?_
 rintro e w1 ⟨rfl, hf, hb⟩
 have c2 : w1.cell? ⟨w.heap.size, 2, none⟩ = some (.string ⟨#[]⟩) := by rw [World.cell?, show w1.heap[w.heap.size]? = _ from hf]; rfl
 have f2 : w1.frozen? ⟨w.heap.size, 2, none⟩ = false := Lib.frozen_of_heap hf 2
 have HF : Hid (Fa_FtI w1 w.heap.size o c ⟨#[]⟩ (.iface 182 q)) := hf
 have HB : Hid (Below w.heap.size w w1) := hb
 clear hf hb
 go_wp2
 go_ret
 refine ⟨rfl, ?_, HB.out.setCell (p := ⟨w.heap.size, 2, none⟩) (Nat.le_refl _) _⟩
 have hf := HF.out
 unfold Fa_FtI at hf ⊢
 simp [World.setCell, Array.getElem?_modify, hf]
theorem er_chain {w : World} {es : List Addr} {y : Value} {k : Nat} (h : Errs w gerrs es) (hy : Er_WireB es y k) (h1 : 1 ≤ k) (h2 : k ≤ 16) : Ch_FtA w (erv es k) y none := by
 obtain ⟨x, hx, _, _⟩ := erv_at_FtG h h1 h2
 rcases hy with rfl | ⟨_, i, rfl⟩
 ·rw [hx]; exact .leaf x rfl
 ·rw [hx]; exact .found x i rfl
theorem er_rank {es : List Addr} {y : Value} {k b : Nat} (hy : Er_WireB es y k) (h1 : 1 ≤ k) : rank_FtA y < b + 2 := by
 obtain ⟨i, rfl⟩ : ∃ i, k = i + 1 := ⟨k - 1, by omega⟩
 rcases hy with rfl | ⟨_, i, rfl⟩
 ·show rank_FtA (eS_FtA _) < b + 2
  rw [rankS]
  omega
 ·show rank_FtA (eN _ _) < b + 2
  rw [rankN]
  omega
theorem says_at {w : World} {es : List Addr} (h : All w es) {x : Addr} {k : Nat} (h1 : 1 ≤ k) (h2 : k ≤ 16) (hx : es[k - 1]? = some x) : w.cell? x = some (.string (wordsOf_FtI k)) := by
 have hw := h.says (k - 1) x (wordsX_FtI.getD (k - 1) []) hx (by
  rw [words_x_FtI]
  have : k - 1 < wordsX_FtI.length := by show k - 1 < 16; omega
  rw [List.getD, List.getElem?_eq_getElem this]
  rfl)
 rw [hw]
 obtain ⟨i, rfl⟩ : ∃ i, k = i + 1 := ⟨k - 1, by omega⟩
 rfl
structure FtV (w : World) (es : List Addr) (v : Value) (o : Int) (k : Nat) : Prop where
 ex : ∃ b y, v = eF_FtA b ∧ Fa_FtI w b o (codeOf_FtI k) (wordsOf_FtI k) y ∧ Er_WireB es y k
 lo : 1 ≤ k
 hi : k ≤ 16
theorem FtV.on {w w' : World} {es : List Addr} {v : Value} {o : Int} {k : Nat} (h : FtV w es v o k) (hb : Below w.heap.size w w') : FtV w' es v o k := by
 obtain ⟨b, y, h1, h2, h3⟩ := h.ex
 exact ⟨⟨b, y, h1, h2.stays hb, h3⟩, h.lo, h.hi⟩
theorem kindOf_eq {k : Nat} (h1 : 1 ≤ k) : kindOf_FtG k = k := by rw [kindOf_FtG, if_neg (by omega)]
theorem leafOf {w : World} {es : List Addr} {k : Nat} (h1 : 1 ≤ k) (h2 : k ≤ 16) : Leaf_FtG w es (erv es k) k := .inr (.inl ⟨h1, h2, rfl⟩)
theorem er_code {w : World} {es : List Addr} {y : Value} {k : Nat} (h : Errs w gerrs es) (hy : Er_WireB es y k) (h1 : 1 ≤ k) (h2 : k ≤ 16) : Calls Tryz.prog 52 #[y] w fun e w' => e = .returned (.int .i64 (codeOf_FtI k)) ∧ Below w.heap.size w w' :=
 fcode_of_FtI w y k (by omega) ((fkind_chain_FtH w es h (erv es k) y none k (er_chain h hy h1 h2) (leafOf h1 h2)).mono fun _ _ ⟨h3, h4⟩ => ⟨by rw [h3, kindOf_eq h1], h4⟩)
theorem er_new {w : World} {es : List Addr} {y : Value} {k : Nat} (h : All w es) (hy : Er_WireB es y k) (h1 : 1 ≤ k) (h2 : k ≤ 16) (o : Int) : Calls Tryz.prog 51 #[.int .i64 o, .int .i64 (codeOf_FtI k), y] w fun e w' => ∃ v, e = .returned v ∧ FtV w' es v o k ∧ Below w.heap.size w w' := by
 obtain ⟨x, hx, hj, _⟩ := erv_at_FtG h.errs h1 h2
 have hc := says_at h h1 h2 hj
 have hl := World.block_lt_of_cell? w _ hc
 rcases hy with rfl | ⟨h0, i, rfl⟩
 ·rw [hx]
  have hb := wF_below_FtI w o (codeOf_FtI k) (eS_FtA x)
  refine (newf_leaf w o (codeOf_FtI k) (.pointer (some x)) (wordsOf_FtI k) ((errorE_FtI _ x (wordsOf_FtI k) (by rw [hb.cell hl]; exact hc)).mono fun _ _ ⟨h3, h4⟩ => ⟨h3, by rw [h4]; exact Below.refl _ _⟩)).mono ?_
  rintro e w' ⟨rfl, h3, h4⟩
  exact ⟨_, rfl, ⟨⟨_, _, rfl, h3, .inl hx.symm⟩, h1, h2⟩, h4⟩
 ·rw [hx]
  have hb := wF_below_FtI w o (codeOf_FtI k) (eN (eS_FtA x) i)
  refine (newf_found w o (codeOf_FtI k) (.agg #[eS_FtA x, .int .i64 i]) (wordsOf_FtI k) (errorN _ x i (wordsOf_FtI k) (by rw [hb.cell hl]; exact hc))).mono ?_
  rintro e w' ⟨rfl, h3, h4⟩
  exact ⟨_, rfl, ⟨⟨_, _, rfl, h3, .inr ⟨h0, i, by rw [hx]; rfl⟩⟩, h1, h2⟩, h4⟩
theorem FtV.chain {w : World} {es : List Addr} {v : Value} {o : Int} {k : Nat} (h : FtV w es v o k) (hE : Errs w gerrs es) : ∃ b, v = eF_FtA b ∧ Ch_FtA w (erv es k) v (some b) := by
 obtain ⟨b, y, rfl, h2, h3⟩ := h.ex
 exact ⟨b, rfl, .fault b o (codeOf_FtI k) (wordsOf_FtI k) y none h2 (er_rank h3 h.lo) (er_chain hE h3 h.lo h.hi)⟩
end
end Go.Proofs.YtpbgbpcdohdecaaGreatDoor
