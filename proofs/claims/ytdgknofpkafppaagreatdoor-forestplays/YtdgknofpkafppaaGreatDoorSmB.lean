/- Lemmas that the proof leans on. -/
import Derived.Test.YtdgknofpkafppaaGreatDoorB49
namespace Go.Proofs.YtdgknofpkafppaaGreatDoor
open Go Go.RowKit
open List renaming getElem_toArray → lqA, getElem_cons_zero → lqB, getElem_cons_succ → lqC, setIfInBounds_toArray → lqD, set_cons_zero → lqE, set_cons_succ → lqF
set_option maxRecDepth 100000
set_option maxHeartbeats 100000000
section
def opsSm : Array Oper := #[
 ⟨some 35, .move (.tmp 0), 23, "law.go:112", #[], none⟩,
 ⟨some 36, .move (.tmp 7), 62, "law.go:112", #[], none⟩,
 ⟨some 37, .nilCheck (.tmp 36), 0, "law.go:112", #[⟨1, .data⟩], none⟩,
 ⟨some 38, .fieldAddr 67 (.tmp 37) 0, 0, "law.go:112", #[⟨2, .data⟩], none⟩,
 ⟨some 39, .load 3 (.tmp 38), 3, "law.go:112", #[⟨3, .data⟩], none⟩,
 ⟨some 40, .call { callee := .value (.func 44), args := #[.tmp 35, .tmp 39], argTypes := #[23, 3] }, 4, "law.go:112", #[⟨0, .data⟩, ⟨4, .data⟩], none⟩,
 ⟨some 41, .unOp .not 4 (.tmp 40), 4, "law.go:112", #[⟨5, .data⟩], none⟩,
 ⟨some 42, .move (.tmp 41), 4, "law.go:112", #[⟨6, .data⟩, ⟨5, .chain⟩], none⟩,
 ⟨some 43, .move (.tmp 0), 23, "law.go:112", #[⟨7, .guard⟩], some (7, false)⟩,
 ⟨some 44, .move (.tmp 7), 62, "law.go:112", #[⟨7, .guard⟩], some (7, false)⟩,
 ⟨some 45, .nilCheck (.tmp 44), 0, "law.go:112", #[⟨9, .data⟩, ⟨7, .guard⟩], some (7, false)⟩,
 ⟨some 46, .fieldAddr 67 (.tmp 45) 0, 0, "law.go:112", #[⟨10, .data⟩, ⟨7, .guard⟩], some (7, false)⟩,
 ⟨some 47, .load 3 (.tmp 46), 3, "law.go:112", #[⟨11, .data⟩, ⟨7, .guard⟩], some (7, false)⟩,
 ⟨some 48, .call { callee := .value (.func 45), args := #[.tmp 43, .tmp 47], argTypes := #[23, 3] }, 3, "law.go:112", #[⟨8, .data⟩, ⟨12, .data⟩, ⟨7, .chain⟩, ⟨7, .guard⟩], some (7, false)⟩,
 ⟨some 49, .move (.tmp 7), 62, "law.go:112", #[⟨7, .guard⟩], some (7, false)⟩,
 ⟨some 50, .nilCheck (.tmp 49), 0, "law.go:112", #[⟨14, .data⟩, ⟨7, .guard⟩], some (7, false)⟩,
 ⟨some 51, .fieldAddr 67 (.tmp 50) 1, 0, "law.go:112", #[⟨15, .data⟩, ⟨7, .guard⟩], some (7, false)⟩,
 ⟨some 52, .load 3 (.tmp 51), 3, "law.go:112", #[⟨16, .data⟩, ⟨7, .guard⟩], some (7, false)⟩,
 ⟨some 53, .binOp .neq 3 (.tmp 48) (.tmp 52) 3, 4, "law.go:112", #[⟨13, .data⟩, ⟨17, .data⟩, ⟨7, .guard⟩], some (7, false)⟩,
 ⟨some 54, .pick (.tmp 42) (.const (Value.bool true)) (.tmp 53), 4, "law.go:112", #[⟨7, .data⟩, ⟨18, .data⟩], none⟩,
 ⟨some 55, .move (.tmp 54), 4, "law.go:112", #[⟨19, .data⟩, ⟨13, .chain⟩], none⟩,
 ⟨some 56, .move (.tmp 0), 23, "law.go:112", #[⟨20, .guard⟩], some (20, false)⟩,
 ⟨some 57, .move (.tmp 7), 62, "law.go:112", #[⟨20, .guard⟩], some (20, false)⟩,
 ⟨some 58, .nilCheck (.tmp 57), 0, "law.go:112", #[⟨22, .data⟩, ⟨20, .guard⟩], some (20, false)⟩,
 ⟨some 59, .fieldAddr 67 (.tmp 58) 0, 0, "law.go:112", #[⟨23, .data⟩, ⟨20, .guard⟩], some (20, false)⟩,
 ⟨some 60, .load 3 (.tmp 59), 3, "law.go:112", #[⟨24, .data⟩, ⟨20, .guard⟩], some (20, false)⟩,
 ⟨some 61, .call { callee := .value (.func 46), args := #[.tmp 56, .tmp 60], argTypes := #[23, 3] }, 4, "law.go:112", #[⟨21, .data⟩, ⟨25, .data⟩, ⟨20, .chain⟩, ⟨20, .guard⟩], some (20, false)⟩,
 ⟨some 62, .move (.tmp 1), 25, "law.go:112", #[⟨20, .guard⟩], some (20, false)⟩,
 ⟨some 63, .move (.tmp 7), 62, "law.go:112", #[⟨20, .guard⟩], some (20, false)⟩,
 ⟨some 64, .nilCheck (.tmp 63), 0, "law.go:112", #[⟨28, .data⟩, ⟨20, .guard⟩], some (20, false)⟩,
 ⟨some 65, .fieldAddr 67 (.tmp 64) 0, 0, "law.go:112", #[⟨29, .data⟩, ⟨20, .guard⟩], some (20, false)⟩,
 ⟨some 66, .load 3 (.tmp 65), 3, "law.go:112", #[⟨30, .data⟩, ⟨20, .guard⟩], some (20, false)⟩,
 ⟨some 67, .call { callee := .value (.func 47), args := #[.tmp 62, .tmp 66], argTypes := #[25, 3] }, 4, "law.go:112", #[⟨27, .data⟩, ⟨31, .data⟩, ⟨26, .chain⟩, ⟨20, .guard⟩], some (20, false)⟩,
 ⟨some 68, .binOp .neq 4 (.tmp 61) (.tmp 67) 4, 4, "law.go:112", #[⟨26, .data⟩, ⟨32, .data⟩, ⟨20, .guard⟩], some (20, false)⟩,
 ⟨some 69, .pick (.tmp 55) (.const (Value.bool true)) (.tmp 68), 4, "law.go:112", #[⟨20, .data⟩, ⟨33, .data⟩], none⟩,
 ⟨some 70, .move (.tmp 69), 4, "law.go:112", #[⟨34, .data⟩, ⟨32, .chain⟩], none⟩,
 ⟨some 71, .move (.tmp 0), 23, "law.go:112", #[⟨35, .guard⟩], some (35, false)⟩,
 ⟨some 72, .move (.tmp 7), 62, "law.go:112", #[⟨35, .guard⟩], some (35, false)⟩,
 ⟨some 73, .nilCheck (.tmp 72), 0, "law.go:112", #[⟨37, .data⟩, ⟨35, .guard⟩], some (35, false)⟩,
 ⟨some 74, .fieldAddr 67 (.tmp 73) 0, 0, "law.go:112", #[⟨38, .data⟩, ⟨35, .guard⟩], some (35, false)⟩,
 ⟨some 75, .load 3 (.tmp 74), 3, "law.go:112", #[⟨39, .data⟩, ⟨35, .guard⟩], some (35, false)⟩,
 ⟨some 76, .call { callee := .value (.func 48), args := #[.tmp 71, .tmp 75], argTypes := #[23, 3] }, 43, "law.go:112", #[⟨36, .data⟩, ⟨40, .data⟩, ⟨35, .chain⟩, ⟨35, .guard⟩], some (35, false)⟩,
 ⟨some 77, .move (.tmp 7), 62, "law.go:112", #[⟨35, .guard⟩], some (35, false)⟩,
 ⟨some 78, .nilCheck (.tmp 77), 0, "law.go:112", #[⟨42, .data⟩, ⟨35, .guard⟩], some (35, false)⟩,
 ⟨some 79, .fieldAddr 67 (.tmp 78) 3, 0, "law.go:112", #[⟨43, .data⟩, ⟨35, .guard⟩], some (35, false)⟩,
 ⟨some 80, .load 43 (.tmp 79), 43, "law.go:112", #[⟨44, .data⟩, ⟨35, .guard⟩], some (35, false)⟩,
 ⟨some 81, .call { callee := .value (.func 22), args := #[.tmp 76, .tmp 80], argTypes := #[43, 43] }, 4, "law.go:112", #[⟨41, .data⟩, ⟨45, .data⟩, ⟨41, .chain⟩, ⟨35, .guard⟩], some (35, false)⟩,
 ⟨some 82, .unOp .not 4 (.tmp 81), 4, "law.go:112", #[⟨46, .data⟩, ⟨35, .guard⟩], some (35, false)⟩,
 ⟨some 83, .pick (.tmp 70) (.const (Value.bool true)) (.tmp 82), 4, "law.go:112", #[⟨35, .data⟩, ⟨47, .data⟩], none⟩,
 ⟨some 84, .move (.tmp 83), 4, "law.go:112", #[⟨48, .data⟩, ⟨46, .chain⟩], none⟩,
 ⟨some 85, .move (.tmp 0), 23, "law.go:112", #[⟨49, .guard⟩], some (49, false)⟩,
 ⟨some 86, .move (.tmp 7), 62, "law.go:112", #[⟨49, .guard⟩], some (49, false)⟩,
 ⟨some 87, .nilCheck (.tmp 86), 0, "law.go:112", #[⟨51, .data⟩, ⟨49, .guard⟩], some (49, false)⟩,
 ⟨some 88, .fieldAddr 67 (.tmp 87) 0, 0, "law.go:112", #[⟨52, .data⟩, ⟨49, .guard⟩], some (49, false)⟩,
 ⟨some 89, .load 3 (.tmp 88), 3, "law.go:112", #[⟨53, .data⟩, ⟨49, .guard⟩], some (49, false)⟩,
 ⟨some 90, .call { callee := .value (.func 49), args := #[.tmp 85, .tmp 89], argTypes := #[23, 3] }, 43, "law.go:112", #[⟨50, .data⟩, ⟨54, .data⟩, ⟨49, .chain⟩, ⟨49, .guard⟩], some (49, false)⟩,
 ⟨some 91, .move (.tmp 7), 62, "law.go:112", #[⟨49, .guard⟩], some (49, false)⟩,
 ⟨some 92, .nilCheck (.tmp 91), 0, "law.go:112", #[⟨56, .data⟩, ⟨49, .guard⟩], some (49, false)⟩,
 ⟨some 93, .fieldAddr 67 (.tmp 92) 4, 0, "law.go:112", #[⟨57, .data⟩, ⟨49, .guard⟩], some (49, false)⟩,
 ⟨some 94, .load 43 (.tmp 93), 43, "law.go:112", #[⟨58, .data⟩, ⟨49, .guard⟩], some (49, false)⟩,
 ⟨some 95, .call { callee := .value (.func 22), args := #[.tmp 90, .tmp 94], argTypes := #[43, 43] }, 4, "law.go:112", #[⟨55, .data⟩, ⟨59, .data⟩, ⟨55, .chain⟩, ⟨49, .guard⟩], some (49, false)⟩,
 ⟨some 96, .unOp .not 4 (.tmp 95), 4, "law.go:112", #[⟨60, .data⟩, ⟨49, .guard⟩], some (49, false)⟩,
 ⟨some 97, .pick (.tmp 84) (.const (Value.bool true)) (.tmp 96), 4, "law.go:112", #[⟨49, .data⟩, ⟨61, .data⟩], none⟩,
 ⟨some 98, .move (.tmp 97), 4, "law.go:112", #[⟨62, .data⟩, ⟨60, .chain⟩], none⟩,
 ⟨some 99, .move (.tmp 0), 23, "law.go:112", #[⟨63, .guard⟩], some (63, false)⟩,
 ⟨some 100, .move (.tmp 7), 62, "law.go:112", #[⟨63, .guard⟩], some (63, false)⟩,
 ⟨some 101, .nilCheck (.tmp 100), 0, "law.go:112", #[⟨65, .data⟩, ⟨63, .guard⟩], some (63, false)⟩,
 ⟨some 102, .fieldAddr 67 (.tmp 101) 0, 0, "law.go:112", #[⟨66, .data⟩, ⟨63, .guard⟩], some (63, false)⟩,
 ⟨some 103, .load 3 (.tmp 102), 3, "law.go:112", #[⟨67, .data⟩, ⟨63, .guard⟩], some (63, false)⟩,
 ⟨some 104, .call { callee := .value (.func 11), args := #[.tmp 99, .tmp 103], argTypes := #[23, 3] }, 43, "law.go:112", #[⟨64, .data⟩, ⟨68, .data⟩, ⟨63, .chain⟩, ⟨63, .guard⟩], some (63, false)⟩,
 ⟨some 105, .move (.tmp 7), 62, "law.go:112", #[⟨63, .guard⟩], some (63, false)⟩,
 ⟨some 106, .nilCheck (.tmp 105), 0, "law.go:112", #[⟨70, .data⟩, ⟨63, .guard⟩], some (63, false)⟩,
 ⟨some 107, .fieldAddr 67 (.tmp 106) 5, 0, "law.go:112", #[⟨71, .data⟩, ⟨63, .guard⟩], some (63, false)⟩,
 ⟨some 108, .load 43 (.tmp 107), 43, "law.go:112", #[⟨72, .data⟩, ⟨63, .guard⟩], some (63, false)⟩,
 ⟨some 109, .call { callee := .value (.func 22), args := #[.tmp 104, .tmp 108], argTypes := #[43, 43] }, 4, "law.go:112", #[⟨69, .data⟩, ⟨73, .data⟩, ⟨69, .chain⟩, ⟨63, .guard⟩], some (63, false)⟩,
 ⟨some 110, .unOp .not 4 (.tmp 109), 4, "law.go:112", #[⟨74, .data⟩, ⟨63, .guard⟩], some (63, false)⟩,
 ⟨some 111, .pick (.tmp 98) (.const (Value.bool true)) (.tmp 110), 4, "law.go:112", #[⟨63, .data⟩, ⟨75, .data⟩], none⟩,
 ⟨some 112, .move (.tmp 111), 4, "law.go:112", #[⟨76, .data⟩, ⟨74, .chain⟩], none⟩,
 ⟨some 113, .move (.tmp 0), 23, "law.go:112", #[⟨77, .guard⟩], some (77, false)⟩,
 ⟨some 114, .move (.tmp 7), 62, "law.go:112", #[⟨77, .guard⟩], some (77, false)⟩,
 ⟨some 115, .nilCheck (.tmp 114), 0, "law.go:112", #[⟨79, .data⟩, ⟨77, .guard⟩], some (77, false)⟩,
 ⟨some 116, .fieldAddr 67 (.tmp 115) 0, 0, "law.go:112", #[⟨80, .data⟩, ⟨77, .guard⟩], some (77, false)⟩,
 ⟨some 117, .load 3 (.tmp 116), 3, "law.go:112", #[⟨81, .data⟩, ⟨77, .guard⟩], some (77, false)⟩,
 ⟨some 118, .call { callee := .value (.func 9), args := #[.tmp 113, .tmp 117], argTypes := #[23, 3] }, 38, "law.go:112", #[⟨78, .data⟩, ⟨82, .data⟩, ⟨77, .chain⟩, ⟨77, .guard⟩], some (77, false)⟩,
 ⟨some 119, .move (.tmp 1), 25, "law.go:112", #[⟨77, .guard⟩], some (77, false)⟩,
 ⟨some 120, .move (.tmp 7), 62, "law.go:112", #[⟨77, .guard⟩], some (77, false)⟩,
 ⟨some 121, .nilCheck (.tmp 120), 0, "law.go:112", #[⟨85, .data⟩, ⟨77, .guard⟩], some (77, false)⟩,
 ⟨some 122, .fieldAddr 67 (.tmp 121) 0, 0, "law.go:112", #[⟨86, .data⟩, ⟨77, .guard⟩], some (77, false)⟩,
 ⟨some 123, .load 3 (.tmp 122), 3, "law.go:112", #[⟨87, .data⟩, ⟨77, .guard⟩], some (77, false)⟩,
 ⟨some 124, .call { callee := .value (.func 50), args := #[.tmp 119, .tmp 123], argTypes := #[25, 3] }, 38, "law.go:112", #[⟨84, .data⟩, ⟨88, .data⟩, ⟨83, .chain⟩, ⟨77, .guard⟩], some (77, false)⟩,
 ⟨some 125, .call { callee := .value (.func 20), args := #[.tmp 118, .tmp 124], argTypes := #[38, 38] }, 4, "law.go:112", #[⟨83, .data⟩, ⟨89, .data⟩, ⟨89, .chain⟩, ⟨77, .guard⟩], some (77, false)⟩,
 ⟨some 126, .unOp .not 4 (.tmp 125), 4, "law.go:112", #[⟨90, .data⟩, ⟨77, .guard⟩], some (77, false)⟩,
 ⟨some 127, .pick (.tmp 112) (.const (Value.bool true)) (.tmp 126), 4, "law.go:112", #[⟨77, .data⟩, ⟨91, .data⟩], none⟩]
variable {es : List Addr} {w0 w w' : World} {p q mm : Nat} {F : Fo}
theorem same_any (h : B2q es w0 p q mm F w) (hm : mm ≤ 900) :
  Calls Tryz.prog 8 #[.pointer (some ⟨p, 0, none⟩), .pointer (some ⟨q, 0, none⟩)] w fun e w' => e = .returned (.bool true) ∧ RowKit.Below w.heap.size w w' := by
 have HB2 : Hid (∀ u, RowKit.Below w.heap.size w u → Pg es w0 u p mm F) := fun u hu => (h.on hu).pd.1
 obtain ⟨_, Z, hDw⟩ := h.pd
 have HDQ : Hid (∀ u, RowKit.Below w.heap.size w u → Dq w0 q mm F u Z) := fun u hu => (dq_ft w0 q mm F).on hDw hu
 have HROW := hid (fun z (hz : z ∈ keys F) => hDw.row hz)
 have HBT := hid hDw.2.1.bof.keys
 have CA := hid hDw.all
 obtain ⟨l, hl⟩ : ∃ l, l = setOf (keys F) := ⟨_, rfl⟩
 have HL : Hid (∀ z ∈ l, z ∈ keys F) := fun z hz => by rw [hl] at hz; exact ((mem_setOf _ _).1 hz).2
 have HPA : Hid (∀ u, RowKit.Below w.heap.size w u → Calls Tryz.prog 42 #[.pointer (some ⟨p, 0, none⟩)] u fun e w' => ∃ a c, e = .returned (.slice a l.length c) ∧ Rz w' a l.length c l ∧ RowKit.Below u.heap.size u w') := fun u hu => by
  have := (HB2.out u hu).alls
  rw [← hl] at this
  exact this
 rw [← hl] at CA
 have hlen : l.length ≤ 40 := by
  rw [hl]
  refine Nat.le_trans (setOf_length _) ?_
  rw [keys, List.length_map]
  exact hDw.2.1.inv.len
 clear h hDw hl
 go_enter Tryz.func8, Tryz.ntmps8
 go_wp2_with fail
 refine CA.out.mono ?_
 rintro e W1 ⟨a1, c1, rfl, hr1, hb1⟩
 have CP := hid (HPA.out W1 hb1)
 have HR1 := hid hr1
 have HB1 := hid hb1
 clear CA HPA hr1 hb1
 go_wp2_with fail
 refine CP.out.mono ?_
 rintro e W2 ⟨a2, c2, rfl, hr2, hb2⟩
 have CS := hid (samez_any _ _ _ _ _ _ _ _ _ hr2 (HR1.out.on hb2))
 have HB2' := hid (Below.on HB1.out hb2)
 have HR2 := hid (HR1.out.on hb2)
 clear CP hr2 hb2 HR1 HB1
 go_wp2_with fail
 refine CS.out.mono ?_
 rintro e W3 ⟨rfl, q3, rfl⟩
 rw [zeq_self]
 have hb3 := Below.on HB2'.out (below_drewN (Below.refl _ W2) q3)
 have hr3 := HR2.out.on (below_drewN (Below.refl _ W2) q3)
 generalize W2.drewN q3 = W4 at *
 have CH := hid (HB2.out W4 hb3).hlds
 have HB4 := hid hb3
 have HR4 := hid hr3
 clear CS HB2' HR2 hb3 hr3
 go_wp2_with fail
 refine CH.out.mono ?_
 rintro e W5 ⟨a5, c5, rfl, hr5, hb5⟩
 have HB5 := hid (Below.on HB4.out hb5)
 have HR5 := hid (HR4.out.on hb5)
 have HH5 := hid hr5
 have CG := hid (HDQ.out W5 HB5.out).hld
 clear CH HB4 HR4 hr5 hb5
 go_wp2_with fail
 refine CG.out.mono ?_
 rintro e W6 ⟨a6, c6, rfl, hr6, hb6⟩
 have CT := hid (samez_any _ _ _ _ _ _ _ _ _ (HH5.out.on hb6) hr6)
 have HB6 := hid (Below.on HB5.out hb6)
 have HR6 := hid (HR5.out.on hb6)
 clear CG HB5 HR5 HH5 hr6 hb6
 go_wp2_with fail
 refine CT.out.mono ?_
 rintro e W7 ⟨rfl, q7, rfl⟩
 rw [zeq_self]
 have hb7 := Below.on HB6.out (below_drewN (Below.refl _ W6) q7)
 have HRZ : Hid (∀ u, RowKit.Below W6.heap.size W6 u → Rz u a1 l.length c1 l) := fun u hu => HR6.out.on hu
 have HB7 := hid HB6.out
 have hr7 := HR6.out.on (below_drewN (Below.refl _ W6) q7)
 have hsm := hr7.small
 clear CT HB6 HR6
 generalize W6.drewN q7 = W8 at *
 have HR8 := hid hr7
 have HB8 := hid hb7
 clear hr7 hb7 HRZ HB7
 obtain ⟨n, hn⟩ : ∃ n, n = l.length := ⟨_, rfl⟩
 have HN := hid hn
 rw [← hn] at hlen hsm HR8 ⊢
 clear hn
 go_wp2
 go_loopw [6] (fun i wr => ∃ j : Nat, i = .int .i64 j ∧ j ≤ n ∧ RowKit.Below W8.heap.size W8 wr) (fun i _ => n - (numOf i).toNat)
 case atStart => exact ⟨0, rfl, by omega, Below.refl _ _⟩
 case round =>
  obtain ⟨j, rfl, hj, hbr⟩ := hrel
  have hrr := HR8.out.on hbr
  have hbw := Below.on HB8.out hbr
  by_cases hgo : j < n
  ·have e1 : decide ((j : Int) < n) = true := decide_eq_true (by omega)
   have e2 : (j : Int) < n := by omega
   obtain ⟨b, off, z, rfl, hlt, hz, hcz⟩ := hrr.at_ hgo
   have hzk := HL.out z (List.mem_of_getElem? hz)
   obtain ⟨g, P, s, hS, hgt, hC⟩ := HROW.out z hzk
   have hbz : Bt z := HBT.out z hzk
   have CS := hid (hS wr hbw)
   have HW := hid hbr
   have HBW := hid hbw
   have HCC : Hid (∀ u, RowKit.Below wr.heap.size wr u → C33 u g P z s) := fun u hu => hC u (Below.on hbw hu)
   have HHAS : Hid (∀ u, RowKit.Below wr.heap.size wr u → Calls Tryz.prog 44 #[.pointer (some ⟨p, 0, none⟩), .int .i64 z] u fun e w' => e = .returned (.bool true) ∧ RowKit.Below u.heap.size u w') := fun u hu => by
    have := (HB2.out u (Below.on hbw hu)).has z hbz
    rw [hgt] at this
    exact this.mono fun _ _ ⟨h1, h2⟩ => ⟨h1, by rw [h2]; exact Below.refl _ _⟩
   have HPAR : Hid (∀ u, RowKit.Below wr.heap.size wr u → Calls Tryz.prog 45 #[.pointer (some ⟨p, 0, none⟩), .int .i64 z] u fun e w' => e = .returned (.int .i64 s.par) ∧ RowKit.Below u.heap.size u w') := fun u hu => by
    have := (HB2.out u (Below.on hbw hu)).par z hbz
    rw [parF, hgt] at this
    exact this
   have HSY1 : Hid (∀ u, RowKit.Below wr.heap.size wr u → Calls Tryz.prog 46 #[.pointer (some ⟨p, 0, none⟩), .int .i64 z] u fun e w' => e = .returned (.bool (syB 40 F z)) ∧ RowKit.Below u.heap.size u w') := fun u hu => (HB2.out u (Below.on hbw hu)).syd z hbz
   have HSY2 : Hid (∀ u, RowKit.Below wr.heap.size wr u → Calls Tryz.prog 47 #[.pointer (some ⟨q, 0, none⟩), .int .i64 z] u fun e w' => e = .returned (.bool (syB 40 F z)) ∧ RowKit.Below u.heap.size u w') := fun u hu => ((HDQ.out u (Below.on hbw hu)).syd z).mono fun _ _ ⟨h1, h2⟩ => ⟨h1, by rw [h2]; exact Below.refl _ _⟩
   have HPE : Hid (∀ u, RowKit.Below wr.heap.size wr u → Calls Tryz.prog 48 #[.pointer (some ⟨p, 0, none⟩), .int .i64 z] u (Rst u s.pe.q)) := fun u hu => by
    have := (HB2.out u (Below.on hbw hu)).spe hm z hbz
    rw [hgt] at this
    exact this
   have HSPE : Hid (∀ (r : Sx) (u : World), RowKit.Below wr.heap.size wr u → r.Ok u → r.q = s.pe.q → Calls Tryz.prog 22 #[.agg #[.bool r.at_, .int .i64 r.buf, .slice r.dm.a r.dm.n r.dm.c, .slice r.fr.a r.fr.n r.fr.c, .bool r.inp, .bool r.all, .slice r.rg.a r.rg.n r.rg.c, .bool r.ord, .slice r.od.a r.od.n r.od.c, .slice r.pl.a r.pl.n r.pl.c], .agg #[.bool s.pe.at_, .int .i64 s.pe.buf, .slice s.pe.dm.a s.pe.dm.n s.pe.dm.c, .slice s.pe.fr.a s.pe.fr.n s.pe.fr.c, .bool s.pe.inp, .bool s.pe.all, .slice s.pe.rg.a s.pe.rg.n s.pe.rg.c, .bool s.pe.ord, .slice s.pe.od.a s.pe.od.n s.pe.od.c, .slice s.pe.pl.a s.pe.pl.n s.pe.pl.c]] u fun e w' => e = .returned (.bool true) ∧ RowKit.Below u.heap.size u w') := fun r u hu ho he => by
    have := rsame_any r s.pe u ho (hC u (Below.on hbw hu)).ok.pe
    rw [he, sm_same] at this
    exact this
   have HCA : Hid (∀ u, RowKit.Below wr.heap.size wr u → Calls Tryz.prog 49 #[.pointer (some ⟨p, 0, none⟩), .int .i64 z] u (Rst u s.ca.q)) := fun u hu => by
    have := (HB2.out u (Below.on hbw hu)).sca hm z hbz
    rw [hgt] at this
    exact this
   have HSCA : Hid (∀ (r : Sx) (u : World), RowKit.Below wr.heap.size wr u → r.Ok u → r.q = s.ca.q → Calls Tryz.prog 22 #[.agg #[.bool r.at_, .int .i64 r.buf, .slice r.dm.a r.dm.n r.dm.c, .slice r.fr.a r.fr.n r.fr.c, .bool r.inp, .bool r.all, .slice r.rg.a r.rg.n r.rg.c, .bool r.ord, .slice r.od.a r.od.n r.od.c, .slice r.pl.a r.pl.n r.pl.c], .agg #[.bool s.ca.at_, .int .i64 s.ca.buf, .slice s.ca.dm.a s.ca.dm.n s.ca.dm.c, .slice s.ca.fr.a s.ca.fr.n s.ca.fr.c, .bool s.ca.inp, .bool s.ca.all, .slice s.ca.rg.a s.ca.rg.n s.ca.rg.c, .bool s.ca.ord, .slice s.ca.od.a s.ca.od.n s.ca.od.c, .slice s.ca.pl.a s.ca.pl.n s.ca.pl.c]] u fun e w' => e = .returned (.bool true) ∧ RowKit.Below u.heap.size u w') := fun r u hu ho he => by
    have := rsame_any r s.ca u ho (hC u (Below.on hbw hu)).ok.ca
    rw [he, sm_same] at this
    exact this
   have HNO : Hid (∀ u, RowKit.Below wr.heap.size wr u → Calls Tryz.prog 11 #[.pointer (some ⟨p, 0, none⟩), .int .i64 z] u (Rst u s.no.q)) := fun u hu => by
    have := (HB2.out u (Below.on hbw hu)).sno hm z hbz
    rw [hgt] at this
    exact this
   have HSNO : Hid (∀ (r : Sx) (u : World), RowKit.Below wr.heap.size wr u → r.Ok u → r.q = s.no.q → Calls Tryz.prog 22 #[.agg #[.bool r.at_, .int .i64 r.buf, .slice r.dm.a r.dm.n r.dm.c, .slice r.fr.a r.fr.n r.fr.c, .bool r.inp, .bool r.all, .slice r.rg.a r.rg.n r.rg.c, .bool r.ord, .slice r.od.a r.od.n r.od.c, .slice r.pl.a r.pl.n r.pl.c], .agg #[.bool s.no.at_, .int .i64 s.no.buf, .slice s.no.dm.a s.no.dm.n s.no.dm.c, .slice s.no.fr.a s.no.fr.n s.no.fr.c, .bool s.no.inp, .bool s.no.all, .slice s.no.rg.a s.no.rg.n s.no.rg.c, .bool s.no.ord, .slice s.no.od.a s.no.od.n s.no.od.c, .slice s.no.pl.a s.no.pl.n s.no.pl.c]] u fun e w' => e = .returned (.bool true) ∧ RowKit.Below u.heap.size u w') := fun r u hu ho he => by
    have := rsame_any r s.no u ho (hC u (Below.on hbw hu)).ok.no
    rw [he, sm_same] at this
    exact this
   have HWK1 : Hid (∀ u, RowKit.Below wr.heap.size wr u → Calls Tryz.prog 9 #[.pointer (some ⟨p, 0, none⟩), .int .i64 z] u fun e w' => ∃ a c, e = .returned (.slice a (wlk F 41 z 0 0).length c) ∧ RdM 3 w' a (wlk F 41 z 0 0).length c (wlk F 41 z 0 0) ∧ RowKit.Below u.heap.size u w') := fun u hu => (HB2.out u (Below.on hbw hu)).wlk z hbz
   have HWK2 : Hid (∀ u, RowKit.Below wr.heap.size wr u → Calls Tryz.prog 50 #[.pointer (some ⟨q, 0, none⟩), .int .i64 z] u fun e w' => ∃ a c, e = .returned (.slice a (wlk F 41 z 0 0).length c) ∧ RdM 3 w' a (wlk F 41 z 0 0).length c (wlk F 41 z 0 0) ∧ RowKit.Below u.heap.size u w') := fun u hu => (HDQ.out u (Below.on hbw hu)).wlk z
   clear hrr hbw hzk hS hgt hC hbz hz hbr
   generalize wlk F 41 z 0 0 = wl at *
   generalize syB 40 F z = sb at *
   go_wp2_with fail
   refine CS.out.mono ?_
   rintro e W9 ⟨rfl, hw9⟩
   obtain rfl : wr = W9 := hw9.symm
   clear CS
   go_upto_region 8 with fail
   as_aux_lemma =>
    refine swap_ops (ops' := opsSm) (by kernel_rfl) ?_
    refine wp_region_held_drew (S := RowKit.Below wr.heap.size wr) (by kernel_rfl) ?hh (fun hHeld => ?_)
    case hh => exact ((Below.refl _ _).drew)
    generalize wr.drew = V0 at hHeld ⊢
    try dsimp only at hHeld
    refine wpAnyH_take (i := 0) (v := ?_) (oi := ⟨some 35, .move (.tmp 0), 23, "law.go:112", #[], none⟩) (by kernel_rfl) (by kernel_rfl) (by kernel_rfl) (by kernel_rfl) (fun _ _ _ h => h) (Or.inl ⟨by kernel_rfl, ?hy0⟩) (by assumption) ?_
    case hy0 => (intro wI hSw; (try dsimp only at hSw); go_simp; try with_reducible rfl)
    try simp only [Act.put, lqD, lqE, lqF]
    refine wpAnyH_take (i := 1) (v := ?_) (oi := ⟨some 36, .move (.tmp 7), 62, "law.go:112", #[], none⟩) (by kernel_rfl) (by kernel_rfl) (by kernel_rfl) (by kernel_rfl) (fun _ _ _ h => h) (Or.inl ⟨by kernel_rfl, ?hy1⟩) (by assumption) ?_
    case hy1 => (intro wI hSw; (try dsimp only at hSw); go_simp; try with_reducible rfl)
    try simp only [Act.put, lqD, lqE, lqF]
    refine wpAnyH_take (i := 2) (v := ?_) (oi := ⟨some 37, .nilCheck (.tmp 36), 0, "law.go:112", #[⟨1, .data⟩], none⟩) (by kernel_rfl) (by kernel_rfl) (by kernel_rfl) (by kernel_rfl) (fun _ _ _ h => h) (Or.inl ⟨by kernel_rfl, ?hy2⟩) (by assumption) ?_
    case hy2 => (intro wI hSw; (try dsimp only at hSw); go_simp; try with_reducible rfl)
    try simp only [Act.put, lqD, lqE, lqF]
    refine wpAnyH_take (i := 3) (v := ?_) (oi := ⟨some 38, .fieldAddr 67 (.tmp 37) 0, 0, "law.go:112", #[⟨2, .data⟩], none⟩) (by kernel_rfl) (by kernel_rfl) (by kernel_rfl) (by kernel_rfl) (fun _ _ _ h => h) (Or.inl ⟨by kernel_rfl, ?hy3⟩) (by assumption) ?_
    case hy3 => (intro wI hSw; (try dsimp only at hSw); go_simp; try with_reducible rfl)
    try simp only [Act.put, lqD, lqE, lqF]
    refine wpAnyH_take (i := 4) (v := ?_) (oi := ⟨some 39, .load 3 (.tmp 38), 3, "law.go:112", #[⟨3, .data⟩], none⟩) (by kernel_rfl) (by kernel_rfl) (by kernel_rfl) (by kernel_rfl) (fun _ _ _ h => h) (Or.inl ⟨by kernel_rfl, ?hy4⟩) (by assumption) ?_
    case hy4 => (intro wI hSw; (try dsimp only at hSw); have t0 := (HCC.out _ hSw).lt; have t1 := (HCC.out _ hSw).c0; go_simp; try with_reducible rfl)
    try simp only [Act.put, lqD, lqE, lqF]
    refine wpAnyH_ready (rs := [5]) (by kernel_rfl) (by simp) ?_
    refine AllReadyH.cons (o := ⟨some 40, .call { callee := .value (.func 44), args := #[.tmp 35, .tmp 39], argTypes := #[23, 3] }, 4, "law.go:112", #[⟨0, .data⟩, ⟨4, .data⟩], none⟩) (by kernel_rfl) (fun K hK => ?_) AllReadyH.nil
    rw [if_pos (by kernel_rfl)]
    go_simp
    go_wp2_with fail
    refine (HHAS.out V0 hHeld).mono ?_
    rintro e W5 ⟨rfl, hb⟩
    have hH2 := Below.on hHeld hb
    refine hK.out _ _ hH2 (fun _ => ?_)
    clear hK K hHeld hb
    have hHeld := hH2
    clear hH2
    try simp only [Act.put, lqD, lqE, lqF]
    refine wpAnyH_take (i := 6) (v := ?_) (oi := ⟨some 41, .unOp .not 4 (.tmp 40), 4, "law.go:112", #[⟨5, .data⟩], none⟩) (by kernel_rfl) (by kernel_rfl) (by kernel_rfl) (by kernel_rfl) (fun _ _ _ h => h) (Or.inl ⟨by kernel_rfl, ?hy6⟩) (by assumption) ?_
    case hy6 => (intro wI hSw; (try dsimp only at hSw); go_simp; try with_reducible rfl)
    try simp only [Act.put, lqD, lqE, lqF]
    refine wpAnyH_take (i := 7) (v := ?_) (oi := ⟨some 42, .move (.tmp 41), 4, "law.go:112", #[⟨6, .data⟩, ⟨5, .chain⟩], none⟩) (by kernel_rfl) (by kernel_rfl) (by kernel_rfl) (by kernel_rfl) (fun _ _ _ h => h) (Or.inl ⟨by kernel_rfl, ?hy7⟩) (by assumption) ?_
    case hy7 => (intro wI hSw; (try dsimp only at hSw); go_simp; try with_reducible rfl)
    try simp only [Act.put, lqD, lqE, lqF]
    refine wpAnyH_take (i := 8) (v := ?_) (oi := ⟨some 43, .move (.tmp 0), 23, "law.go:112", #[⟨7, .guard⟩], some (7, false)⟩) (by kernel_rfl) (by kernel_rfl) (by kernel_rfl) (by kernel_rfl) (fun _ _ _ h => h) (Or.inl ⟨by kernel_rfl, ?hy8⟩) (by assumption) ?_
    case hy8 => (intro wI hSw; (try dsimp only at hSw); go_simp; try with_reducible rfl)
    try simp only [Act.put, lqD, lqE, lqF]
    refine wpAnyH_take (i := 9) (v := ?_) (oi := ⟨some 44, .move (.tmp 7), 62, "law.go:112", #[⟨7, .guard⟩], some (7, false)⟩) (by kernel_rfl) (by kernel_rfl) (by kernel_rfl) (by kernel_rfl) (fun _ _ _ h => h) (Or.inl ⟨by kernel_rfl, ?hy9⟩) (by assumption) ?_
    case hy9 => (intro wI hSw; (try dsimp only at hSw); go_simp; try with_reducible rfl)
    try simp only [Act.put, lqD, lqE, lqF]
    refine wpAnyH_take (i := 10) (v := ?_) (oi := ⟨some 45, .nilCheck (.tmp 44), 0, "law.go:112", #[⟨9, .data⟩, ⟨7, .guard⟩], some (7, false)⟩) (by kernel_rfl) (by kernel_rfl) (by kernel_rfl) (by kernel_rfl) (fun _ _ _ h => h) (Or.inl ⟨by kernel_rfl, ?hy10⟩) (by assumption) ?_
    case hy10 => (intro wI hSw; (try dsimp only at hSw); go_simp; try with_reducible rfl)
    try simp only [Act.put, lqD, lqE, lqF]
    refine wpAnyH_take (i := 11) (v := ?_) (oi := ⟨some 46, .fieldAddr 67 (.tmp 45) 0, 0, "law.go:112", #[⟨10, .data⟩, ⟨7, .guard⟩], some (7, false)⟩) (by kernel_rfl) (by kernel_rfl) (by kernel_rfl) (by kernel_rfl) (fun _ _ _ h => h) (Or.inl ⟨by kernel_rfl, ?hy11⟩) (by assumption) ?_
    case hy11 => (intro wI hSw; (try dsimp only at hSw); go_simp; try with_reducible rfl)
    try simp only [Act.put, lqD, lqE, lqF]
    refine wpAnyH_take (i := 12) (v := ?_) (oi := ⟨some 47, .load 3 (.tmp 46), 3, "law.go:112", #[⟨11, .data⟩, ⟨7, .guard⟩], some (7, false)⟩) (by kernel_rfl) (by kernel_rfl) (by kernel_rfl) (by kernel_rfl) (fun _ _ _ h => h) (Or.inl ⟨by kernel_rfl, ?hy12⟩) (by assumption) ?_
    case hy12 => (intro wI hSw; (try dsimp only at hSw); have t0 := (HCC.out _ hSw).lt; have t1 := (HCC.out _ hSw).c0; go_simp; try with_reducible rfl)
    try simp only [Act.put, lqD, lqE, lqF]
    refine wpAnyH_take (i := 14) (v := ?_) (oi := ⟨some 49, .move (.tmp 7), 62, "law.go:112", #[⟨7, .guard⟩], some (7, false)⟩) (by kernel_rfl) (by kernel_rfl) (by kernel_rfl) (by kernel_rfl) (fun _ _ _ h => h) (Or.inl ⟨by kernel_rfl, ?hy14⟩) (by assumption) ?_
    case hy14 => (intro wI hSw; (try dsimp only at hSw); go_simp; try with_reducible rfl)
    try simp only [Act.put, lqD, lqE, lqF]
    refine wpAnyH_take (i := 15) (v := ?_) (oi := ⟨some 50, .nilCheck (.tmp 49), 0, "law.go:112", #[⟨14, .data⟩, ⟨7, .guard⟩], some (7, false)⟩) (by kernel_rfl) (by kernel_rfl) (by kernel_rfl) (by kernel_rfl) (fun _ _ _ h => h) (Or.inl ⟨by kernel_rfl, ?hy15⟩) (by assumption) ?_
    case hy15 => (intro wI hSw; (try dsimp only at hSw); go_simp; try with_reducible rfl)
    try simp only [Act.put, lqD, lqE, lqF]
    refine wpAnyH_take (i := 16) (v := ?_) (oi := ⟨some 51, .fieldAddr 67 (.tmp 50) 1, 0, "law.go:112", #[⟨15, .data⟩, ⟨7, .guard⟩], some (7, false)⟩) (by kernel_rfl) (by kernel_rfl) (by kernel_rfl) (by kernel_rfl) (fun _ _ _ h => h) (Or.inl ⟨by kernel_rfl, ?hy16⟩) (by assumption) ?_
    case hy16 => (intro wI hSw; (try dsimp only at hSw); go_simp; try with_reducible rfl)
    try simp only [Act.put, lqD, lqE, lqF]
    refine wpAnyH_take (i := 17) (v := ?_) (oi := ⟨some 52, .load 3 (.tmp 51), 3, "law.go:112", #[⟨16, .data⟩, ⟨7, .guard⟩], some (7, false)⟩) (by kernel_rfl) (by kernel_rfl) (by kernel_rfl) (by kernel_rfl) (fun _ _ _ h => h) (Or.inl ⟨by kernel_rfl, ?hy17⟩) (by assumption) ?_
    case hy17 => (intro wI hSw; (try dsimp only at hSw); have t0 := (HCC.out _ hSw).lt; have t1 := (HCC.out _ hSw).c1; go_simp; try with_reducible rfl)
    try simp only [Act.put, lqD, lqE, lqF]
    refine wpAnyH_ready (rs := [13]) (by kernel_rfl) (by simp) ?_
    refine AllReadyH.cons (o := ⟨some 48, .call { callee := .value (.func 45), args := #[.tmp 43, .tmp 47], argTypes := #[23, 3] }, 3, "law.go:112", #[⟨8, .data⟩, ⟨12, .data⟩, ⟨7, .chain⟩, ⟨7, .guard⟩], some (7, false)⟩) (by kernel_rfl) (fun K hK => ?_) AllReadyH.nil
    rw [if_pos (by kernel_rfl)]
    go_simp
    go_wp2_with fail
    refine (HPAR.out W5 hHeld).mono ?_
    rintro e W13 ⟨rfl, hb⟩
    have hH2 := Below.on hHeld hb
    refine hK.out _ _ hH2 (fun _ => ?_)
    clear hK K hHeld hb
    have hHeld := hH2
    clear hH2
    try simp only [Act.put, lqD, lqE, lqF]
    refine wpAnyH_take (i := 18) (v := ?_) (oi := ⟨some 53, .binOp .neq 3 (.tmp 48) (.tmp 52) 3, 4, "law.go:112", #[⟨13, .data⟩, ⟨17, .data⟩, ⟨7, .guard⟩], some (7, false)⟩) (by kernel_rfl) (by kernel_rfl) (by kernel_rfl) (by kernel_rfl) (fun _ _ _ h => h) (Or.inl ⟨by kernel_rfl, ?hy18⟩) (by assumption) ?_
    case hy18 => (intro wI hSw; (try dsimp only at hSw); go_simp; try with_reducible rfl)
    try simp only [Act.put, lqD, lqE, lqF]
    refine wpAnyH_take (i := 19) (v := ?_) (oi := ⟨some 54, .pick (.tmp 42) (.const (Value.bool true)) (.tmp 53), 4, "law.go:112", #[⟨7, .data⟩, ⟨18, .data⟩], none⟩) (by kernel_rfl) (by kernel_rfl) (by kernel_rfl) (by kernel_rfl) (fun _ _ _ h => h) (Or.inl ⟨by kernel_rfl, ?hy19⟩) (by assumption) ?_
    case hy19 => (intro wI hSw; (try dsimp only at hSw); go_simp; try with_reducible rfl)
    try simp only [Act.put, lqD, lqE, lqF]
    refine wpAnyH_take (i := 20) (v := ?_) (oi := ⟨some 55, .move (.tmp 54), 4, "law.go:112", #[⟨19, .data⟩, ⟨13, .chain⟩], none⟩) (by kernel_rfl) (by kernel_rfl) (by kernel_rfl) (by kernel_rfl) (fun _ _ _ h => h) (Or.inl ⟨by kernel_rfl, ?hy20⟩) (by assumption) ?_
    case hy20 => (intro wI hSw; (try dsimp only at hSw); go_simp; try with_reducible rfl)
    try simp only [Act.put, lqD, lqE, lqF]
    as_aux_lemma =>
     refine wpAnyH_take (i := 21) (v := ?_) (oi := ⟨some 56, .move (.tmp 0), 23, "law.go:112", #[⟨20, .guard⟩], some (20, false)⟩) (by kernel_rfl) (by kernel_rfl) (by kernel_rfl) (by kernel_rfl) (fun _ _ _ h => h) (Or.inl ⟨by kernel_rfl, ?hy21⟩) (by assumption) ?_
     case hy21 => (intro wI hSw; (try dsimp only at hSw); go_simp; try with_reducible rfl)
     try simp only [Act.put, lqD, lqE, lqF]
     refine wpAnyH_take (i := 22) (v := ?_) (oi := ⟨some 57, .move (.tmp 7), 62, "law.go:112", #[⟨20, .guard⟩], some (20, false)⟩) (by kernel_rfl) (by kernel_rfl) (by kernel_rfl) (by kernel_rfl) (fun _ _ _ h => h) (Or.inl ⟨by kernel_rfl, ?hy22⟩) (by assumption) ?_
     case hy22 => (intro wI hSw; (try dsimp only at hSw); go_simp; try with_reducible rfl)
     try simp only [Act.put, lqD, lqE, lqF]
     refine wpAnyH_take (i := 23) (v := ?_) (oi := ⟨some 58, .nilCheck (.tmp 57), 0, "law.go:112", #[⟨22, .data⟩, ⟨20, .guard⟩], some (20, false)⟩) (by kernel_rfl) (by kernel_rfl) (by kernel_rfl) (by kernel_rfl) (fun _ _ _ h => h) (Or.inl ⟨by kernel_rfl, ?hy23⟩) (by assumption) ?_
     case hy23 => (intro wI hSw; (try dsimp only at hSw); go_simp; try with_reducible rfl)
     try simp only [Act.put, lqD, lqE, lqF]
     refine wpAnyH_take (i := 24) (v := ?_) (oi := ⟨some 59, .fieldAddr 67 (.tmp 58) 0, 0, "law.go:112", #[⟨23, .data⟩, ⟨20, .guard⟩], some (20, false)⟩) (by kernel_rfl) (by kernel_rfl) (by kernel_rfl) (by kernel_rfl) (fun _ _ _ h => h) (Or.inl ⟨by kernel_rfl, ?hy24⟩) (by assumption) ?_
     case hy24 => (intro wI hSw; (try dsimp only at hSw); go_simp; try with_reducible rfl)
     try simp only [Act.put, lqD, lqE, lqF]
     refine wpAnyH_take (i := 25) (v := ?_) (oi := ⟨some 60, .load 3 (.tmp 59), 3, "law.go:112", #[⟨24, .data⟩, ⟨20, .guard⟩], some (20, false)⟩) (by kernel_rfl) (by kernel_rfl) (by kernel_rfl) (by kernel_rfl) (fun _ _ _ h => h) (Or.inl ⟨by kernel_rfl, ?hy25⟩) (by assumption) ?_
     case hy25 => (intro wI hSw; (try dsimp only at hSw); have t0 := (HCC.out _ hSw).lt; have t1 := (HCC.out _ hSw).c0; go_simp; try with_reducible rfl)
     try simp only [Act.put, lqD, lqE, lqF]
     refine wpAnyH_take (i := 27) (v := ?_) (oi := ⟨some 62, .move (.tmp 1), 25, "law.go:112", #[⟨20, .guard⟩], some (20, false)⟩) (by kernel_rfl) (by kernel_rfl) (by kernel_rfl) (by kernel_rfl) (fun _ _ _ h => h) (Or.inl ⟨by kernel_rfl, ?hy27⟩) (by assumption) ?_
     case hy27 => (intro wI hSw; (try dsimp only at hSw); go_simp; try with_reducible rfl)
     try simp only [Act.put, lqD, lqE, lqF]
     refine wpAnyH_take (i := 28) (v := ?_) (oi := ⟨some 63, .move (.tmp 7), 62, "law.go:112", #[⟨20, .guard⟩], some (20, false)⟩) (by kernel_rfl) (by kernel_rfl) (by kernel_rfl) (by kernel_rfl) (fun _ _ _ h => h) (Or.inl ⟨by kernel_rfl, ?hy28⟩) (by assumption) ?_
     case hy28 => (intro wI hSw; (try dsimp only at hSw); go_simp; try with_reducible rfl)
     try simp only [Act.put, lqD, lqE, lqF]
     refine wpAnyH_take (i := 29) (v := ?_) (oi := ⟨some 64, .nilCheck (.tmp 63), 0, "law.go:112", #[⟨28, .data⟩, ⟨20, .guard⟩], some (20, false)⟩) (by kernel_rfl) (by kernel_rfl) (by kernel_rfl) (by kernel_rfl) (fun _ _ _ h => h) (Or.inl ⟨by kernel_rfl, ?hy29⟩) (by assumption) ?_
     case hy29 => (intro wI hSw; (try dsimp only at hSw); go_simp; try with_reducible rfl)
     try simp only [Act.put, lqD, lqE, lqF]
     refine wpAnyH_take (i := 30) (v := ?_) (oi := ⟨some 65, .fieldAddr 67 (.tmp 64) 0, 0, "law.go:112", #[⟨29, .data⟩, ⟨20, .guard⟩], some (20, false)⟩) (by kernel_rfl) (by kernel_rfl) (by kernel_rfl) (by kernel_rfl) (fun _ _ _ h => h) (Or.inl ⟨by kernel_rfl, ?hy30⟩) (by assumption) ?_
     case hy30 => (intro wI hSw; (try dsimp only at hSw); go_simp; try with_reducible rfl)
     try simp only [Act.put, lqD, lqE, lqF]
     refine wpAnyH_take (i := 31) (v := ?_) (oi := ⟨some 66, .load 3 (.tmp 65), 3, "law.go:112", #[⟨30, .data⟩, ⟨20, .guard⟩], some (20, false)⟩) (by kernel_rfl) (by kernel_rfl) (by kernel_rfl) (by kernel_rfl) (fun _ _ _ h => h) (Or.inl ⟨by kernel_rfl, ?hy31⟩) (by assumption) ?_
     case hy31 => (intro wI hSw; (try dsimp only at hSw); have t0 := (HCC.out _ hSw).lt; have t1 := (HCC.out _ hSw).c0; go_simp; try with_reducible rfl)
     try simp only [Act.put, lqD, lqE, lqF]
     refine wpAnyH_ready (rs := [26]) (by kernel_rfl) (by simp) ?_
     refine AllReadyH.cons (o := ⟨some 61, .call { callee := .value (.func 46), args := #[.tmp 56, .tmp 60], argTypes := #[23, 3] }, 4, "law.go:112", #[⟨21, .data⟩, ⟨25, .data⟩, ⟨20, .chain⟩, ⟨20, .guard⟩], some (20, false)⟩) (by kernel_rfl) (fun K hK => ?_) AllReadyH.nil
     rw [if_pos (by kernel_rfl)]
     go_simp
     go_wp2_with fail
     refine (HSY1.out W13 hHeld).mono ?_
     rintro e W26 ⟨rfl, hb⟩
     have hH2 := Below.on hHeld hb
     refine hK.out _ _ hH2 (fun _ => ?_)
     clear hK K hHeld hb
     have hHeld := hH2
     clear hH2
     try simp only [Act.put, lqD, lqE, lqF]
     refine wpAnyH_ready (rs := [32]) (by kernel_rfl) (by simp) ?_
     refine AllReadyH.cons (o := ⟨some 67, .call { callee := .value (.func 47), args := #[.tmp 62, .tmp 66], argTypes := #[25, 3] }, 4, "law.go:112", #[⟨27, .data⟩, ⟨31, .data⟩, ⟨26, .chain⟩, ⟨20, .guard⟩], some (20, false)⟩) (by kernel_rfl) (fun K hK => ?_) AllReadyH.nil
     rw [if_pos (by kernel_rfl)]
     go_simp
     go_wp2_with fail
     refine (HSY2.out W26 hHeld).mono ?_
     rintro e W32 ⟨rfl, hb⟩
     have hH2 := Below.on hHeld hb
     refine hK.out _ _ hH2 (fun _ => ?_)
     clear hK K hHeld hb
     have hHeld := hH2
     clear hH2
     try simp only [Act.put, lqD, lqE, lqF]
     refine wpAnyH_take (i := 33) (v := ?_) (oi := ⟨some 68, .binOp .neq 4 (.tmp 61) (.tmp 67) 4, 4, "law.go:112", #[⟨26, .data⟩, ⟨32, .data⟩, ⟨20, .guard⟩], some (20, false)⟩) (by kernel_rfl) (by kernel_rfl) (by kernel_rfl) (by kernel_rfl) (fun _ _ _ h => h) (Or.inl ⟨by kernel_rfl, ?hy33⟩) (by assumption) ?_
     case hy33 => (intro wI hSw; (try dsimp only at hSw); go_simp; try with_reducible rfl)
     try simp only [Act.put, lqD, lqE, lqF]
     refine wpAnyH_take (i := 34) (v := ?_) (oi := ⟨some 69, .pick (.tmp 55) (.const (Value.bool true)) (.tmp 68), 4, "law.go:112", #[⟨20, .data⟩, ⟨33, .data⟩], none⟩) (by kernel_rfl) (by kernel_rfl) (by kernel_rfl) (by kernel_rfl) (fun _ _ _ h => h) (Or.inl ⟨by kernel_rfl, ?hy34⟩) (by assumption) ?_
     case hy34 => (intro wI hSw; (try dsimp only at hSw); go_simp; try with_reducible rfl)
     try simp only [Act.put, lqD, lqE, lqF]
     refine wpAnyH_take (i := 35) (v := ?_) (oi := ⟨some 70, .move (.tmp 69), 4, "law.go:112", #[⟨34, .data⟩, ⟨32, .chain⟩], none⟩) (by kernel_rfl) (by kernel_rfl) (by kernel_rfl) (by kernel_rfl) (fun _ _ _ h => h) (Or.inl ⟨by kernel_rfl, ?hy35⟩) (by assumption) ?_
     case hy35 => (intro wI hSw; (try dsimp only at hSw); go_simp; try with_reducible rfl)
     try simp only [Act.put, lqD, lqE, lqF]
     as_aux_lemma =>
      refine wpAnyH_take (i := 36) (v := ?_) (oi := ⟨some 71, .move (.tmp 0), 23, "law.go:112", #[⟨35, .guard⟩], some (35, false)⟩) (by kernel_rfl) (by kernel_rfl) (by kernel_rfl) (by kernel_rfl) (fun _ _ _ h => h) (Or.inl ⟨by kernel_rfl, ?hy36⟩) (by assumption) ?_
      case hy36 => (intro wI hSw; (try dsimp only at hSw); go_simp; try with_reducible rfl)
      try simp only [Act.put, lqD, lqE, lqF]
      refine wpAnyH_take (i := 37) (v := ?_) (oi := ⟨some 72, .move (.tmp 7), 62, "law.go:112", #[⟨35, .guard⟩], some (35, false)⟩) (by kernel_rfl) (by kernel_rfl) (by kernel_rfl) (by kernel_rfl) (fun _ _ _ h => h) (Or.inl ⟨by kernel_rfl, ?hy37⟩) (by assumption) ?_
      case hy37 => (intro wI hSw; (try dsimp only at hSw); go_simp; try with_reducible rfl)
      try simp only [Act.put, lqD, lqE, lqF]
      refine wpAnyH_take (i := 38) (v := ?_) (oi := ⟨some 73, .nilCheck (.tmp 72), 0, "law.go:112", #[⟨37, .data⟩, ⟨35, .guard⟩], some (35, false)⟩) (by kernel_rfl) (by kernel_rfl) (by kernel_rfl) (by kernel_rfl) (fun _ _ _ h => h) (Or.inl ⟨by kernel_rfl, ?hy38⟩) (by assumption) ?_
      case hy38 => (intro wI hSw; (try dsimp only at hSw); go_simp; try with_reducible rfl)
      try simp only [Act.put, lqD, lqE, lqF]
      refine wpAnyH_take (i := 39) (v := ?_) (oi := ⟨some 74, .fieldAddr 67 (.tmp 73) 0, 0, "law.go:112", #[⟨38, .data⟩, ⟨35, .guard⟩], some (35, false)⟩) (by kernel_rfl) (by kernel_rfl) (by kernel_rfl) (by kernel_rfl) (fun _ _ _ h => h) (Or.inl ⟨by kernel_rfl, ?hy39⟩) (by assumption) ?_
      case hy39 => (intro wI hSw; (try dsimp only at hSw); go_simp; try with_reducible rfl)
      try simp only [Act.put, lqD, lqE, lqF]
      refine wpAnyH_take (i := 40) (v := ?_) (oi := ⟨some 75, .load 3 (.tmp 74), 3, "law.go:112", #[⟨39, .data⟩, ⟨35, .guard⟩], some (35, false)⟩) (by kernel_rfl) (by kernel_rfl) (by kernel_rfl) (by kernel_rfl) (fun _ _ _ h => h) (Or.inl ⟨by kernel_rfl, ?hy40⟩) (by assumption) ?_
      case hy40 => (intro wI hSw; (try dsimp only at hSw); have t0 := (HCC.out _ hSw).lt; have t1 := (HCC.out _ hSw).c0; go_simp; try with_reducible rfl)
      try simp only [Act.put, lqD, lqE, lqF]
      refine wpAnyH_take (i := 42) (v := ?_) (oi := ⟨some 77, .move (.tmp 7), 62, "law.go:112", #[⟨35, .guard⟩], some (35, false)⟩) (by kernel_rfl) (by kernel_rfl) (by kernel_rfl) (by kernel_rfl) (fun _ _ _ h => h) (Or.inl ⟨by kernel_rfl, ?hy42⟩) (by assumption) ?_
      case hy42 => (intro wI hSw; (try dsimp only at hSw); go_simp; try with_reducible rfl)
      try simp only [Act.put, lqD, lqE, lqF]
      refine wpAnyH_take (i := 43) (v := ?_) (oi := ⟨some 78, .nilCheck (.tmp 77), 0, "law.go:112", #[⟨42, .data⟩, ⟨35, .guard⟩], some (35, false)⟩) (by kernel_rfl) (by kernel_rfl) (by kernel_rfl) (by kernel_rfl) (fun _ _ _ h => h) (Or.inl ⟨by kernel_rfl, ?hy43⟩) (by assumption) ?_
      case hy43 => (intro wI hSw; (try dsimp only at hSw); go_simp; try with_reducible rfl)
      try simp only [Act.put, lqD, lqE, lqF]
      refine wpAnyH_take (i := 44) (v := ?_) (oi := ⟨some 79, .fieldAddr 67 (.tmp 78) 3, 0, "law.go:112", #[⟨43, .data⟩, ⟨35, .guard⟩], some (35, false)⟩) (by kernel_rfl) (by kernel_rfl) (by kernel_rfl) (by kernel_rfl) (fun _ _ _ h => h) (Or.inl ⟨by kernel_rfl, ?hy44⟩) (by assumption) ?_
      case hy44 => (intro wI hSw; (try dsimp only at hSw); go_simp; try with_reducible rfl)
      try simp only [Act.put, lqD, lqE, lqF]
      refine wpAnyH_take (i := 45) (v := ?_) (oi := ⟨some 80, .load 43 (.tmp 79), 43, "law.go:112", #[⟨44, .data⟩, ⟨35, .guard⟩], some (35, false)⟩) (by kernel_rfl) (by kernel_rfl) (by kernel_rfl) (by kernel_rfl) (fun _ _ _ h => h) (Or.inl ⟨by kernel_rfl, ?hy45⟩) (by assumption) ?_
      case hy45 => (intro wI hSw; (try dsimp only at hSw); have t0 := (HCC.out _ hSw).lt; have t1 := (HCC.out _ hSw).a0; have t2 := (HCC.out _ hSw).a1; have t3 := (HCC.out _ hSw).a2; have t4 := (HCC.out _ hSw).a3; have t5 := (HCC.out _ hSw).a4; have t6 := (HCC.out _ hSw).a5; have t7 := (HCC.out _ hSw).a6; have t8 := (HCC.out _ hSw).a7; have t9 := (HCC.out _ hSw).a8; have t10 := (HCC.out _ hSw).a9; go_simp; try with_reducible rfl)
      try simp only [Act.put, lqD, lqE, lqF]
      refine wpAnyH_ready (rs := [41]) (by kernel_rfl) (by simp) ?_
      refine AllReadyH.cons (o := ⟨some 76, .call { callee := .value (.func 48), args := #[.tmp 71, .tmp 75], argTypes := #[23, 3] }, 43, "law.go:112", #[⟨36, .data⟩, ⟨40, .data⟩, ⟨35, .chain⟩, ⟨35, .guard⟩], some (35, false)⟩) (by kernel_rfl) (fun K hK => ?_) AllReadyH.nil
      rw [if_pos (by kernel_rfl)]
      go_simp
      go_wp2_with fail
      refine (HPE.out W32 hHeld).mono ?_
      rintro e W41 ⟨r, rfl, hro, _, hrq, hb⟩
      have hH2 := Below.on hHeld hb
      refine hK.out _ _ hH2 (fun _ => ?_)
      clear hK K hHeld hb
      have hHeld := hH2
      clear hH2
      try simp only [Act.put, lqD, lqE, lqF]
      refine wpAnyH_ready (rs := [46]) (by kernel_rfl) (by simp) ?_
      refine AllReadyH.cons (o := ⟨some 81, .call { callee := .value (.func 22), args := #[.tmp 76, .tmp 80], argTypes := #[43, 43] }, 4, "law.go:112", #[⟨41, .data⟩, ⟨45, .data⟩, ⟨41, .chain⟩, ⟨35, .guard⟩], some (35, false)⟩) (by kernel_rfl) (fun K hK => ?_) AllReadyH.nil
      rw [if_pos (by kernel_rfl)]
      go_simp
      go_wp2_with fail
      refine (HSPE.out r W41 hHeld hro hrq).mono ?_
      rintro e W46 ⟨rfl, hb⟩
      clear hro hrq
      have hH2 := Below.on hHeld hb
      refine hK.out _ _ hH2 (fun _ => ?_)
      clear hK K hHeld hb
      have hHeld := hH2
      clear hH2
      try simp only [Act.put, lqD, lqE, lqF]
      refine wpAnyH_take (i := 47) (v := ?_) (oi := ⟨some 82, .unOp .not 4 (.tmp 81), 4, "law.go:112", #[⟨46, .data⟩, ⟨35, .guard⟩], some (35, false)⟩) (by kernel_rfl) (by kernel_rfl) (by kernel_rfl) (by kernel_rfl) (fun _ _ _ h => h) (Or.inl ⟨by kernel_rfl, ?hy47⟩) (by assumption) ?_
      case hy47 => (intro wI hSw; (try dsimp only at hSw); go_simp; try with_reducible rfl)
      try simp only [Act.put, lqD, lqE, lqF]
      refine wpAnyH_take (i := 48) (v := ?_) (oi := ⟨some 83, .pick (.tmp 70) (.const (Value.bool true)) (.tmp 82), 4, "law.go:112", #[⟨35, .data⟩, ⟨47, .data⟩], none⟩) (by kernel_rfl) (by kernel_rfl) (by kernel_rfl) (by kernel_rfl) (fun _ _ _ h => h) (Or.inl ⟨by kernel_rfl, ?hy48⟩) (by assumption) ?_
      case hy48 => (intro wI hSw; (try dsimp only at hSw); go_simp; try with_reducible rfl)
      try simp only [Act.put, lqD, lqE, lqF]
      refine wpAnyH_take (i := 49) (v := ?_) (oi := ⟨some 84, .move (.tmp 83), 4, "law.go:112", #[⟨48, .data⟩, ⟨46, .chain⟩], none⟩) (by kernel_rfl) (by kernel_rfl) (by kernel_rfl) (by kernel_rfl) (fun _ _ _ h => h) (Or.inl ⟨by kernel_rfl, ?hy49⟩) (by assumption) ?_
      case hy49 => (intro wI hSw; (try dsimp only at hSw); go_simp; try with_reducible rfl)
      try simp only [Act.put, lqD, lqE, lqF]
      as_aux_lemma =>
       refine wpAnyH_take (i := 50) (v := ?_) (oi := ⟨some 85, .move (.tmp 0), 23, "law.go:112", #[⟨49, .guard⟩], some (49, false)⟩) (by kernel_rfl) (by kernel_rfl) (by kernel_rfl) (by kernel_rfl) (fun _ _ _ h => h) (Or.inl ⟨by kernel_rfl, ?hy50⟩) (by assumption) ?_
       case hy50 => (intro wI hSw; (try dsimp only at hSw); go_simp; try with_reducible rfl)
       try simp only [Act.put, lqD, lqE, lqF]
       refine wpAnyH_take (i := 51) (v := ?_) (oi := ⟨some 86, .move (.tmp 7), 62, "law.go:112", #[⟨49, .guard⟩], some (49, false)⟩) (by kernel_rfl) (by kernel_rfl) (by kernel_rfl) (by kernel_rfl) (fun _ _ _ h => h) (Or.inl ⟨by kernel_rfl, ?hy51⟩) (by assumption) ?_
       case hy51 => (intro wI hSw; (try dsimp only at hSw); go_simp; try with_reducible rfl)
       try simp only [Act.put, lqD, lqE, lqF]
       refine wpAnyH_take (i := 52) (v := ?_) (oi := ⟨some 87, .nilCheck (.tmp 86), 0, "law.go:112", #[⟨51, .data⟩, ⟨49, .guard⟩], some (49, false)⟩) (by kernel_rfl) (by kernel_rfl) (by kernel_rfl) (by kernel_rfl) (fun _ _ _ h => h) (Or.inl ⟨by kernel_rfl, ?hy52⟩) (by assumption) ?_
       case hy52 => (intro wI hSw; (try dsimp only at hSw); go_simp; try with_reducible rfl)
       try simp only [Act.put, lqD, lqE, lqF]
       refine wpAnyH_take (i := 53) (v := ?_) (oi := ⟨some 88, .fieldAddr 67 (.tmp 87) 0, 0, "law.go:112", #[⟨52, .data⟩, ⟨49, .guard⟩], some (49, false)⟩) (by kernel_rfl) (by kernel_rfl) (by kernel_rfl) (by kernel_rfl) (fun _ _ _ h => h) (Or.inl ⟨by kernel_rfl, ?hy53⟩) (by assumption) ?_
       case hy53 => (intro wI hSw; (try dsimp only at hSw); go_simp; try with_reducible rfl)
       try simp only [Act.put, lqD, lqE, lqF]
       refine wpAnyH_take (i := 54) (v := ?_) (oi := ⟨some 89, .load 3 (.tmp 88), 3, "law.go:112", #[⟨53, .data⟩, ⟨49, .guard⟩], some (49, false)⟩) (by kernel_rfl) (by kernel_rfl) (by kernel_rfl) (by kernel_rfl) (fun _ _ _ h => h) (Or.inl ⟨by kernel_rfl, ?hy54⟩) (by assumption) ?_
       case hy54 => (intro wI hSw; (try dsimp only at hSw); have t0 := (HCC.out _ hSw).lt; have t1 := (HCC.out _ hSw).c0; go_simp; try with_reducible rfl)
       try simp only [Act.put, lqD, lqE, lqF]
       refine wpAnyH_take (i := 56) (v := ?_) (oi := ⟨some 91, .move (.tmp 7), 62, "law.go:112", #[⟨49, .guard⟩], some (49, false)⟩) (by kernel_rfl) (by kernel_rfl) (by kernel_rfl) (by kernel_rfl) (fun _ _ _ h => h) (Or.inl ⟨by kernel_rfl, ?hy56⟩) (by assumption) ?_
       case hy56 => (intro wI hSw; (try dsimp only at hSw); go_simp; try with_reducible rfl)
       try simp only [Act.put, lqD, lqE, lqF]
       refine wpAnyH_take (i := 57) (v := ?_) (oi := ⟨some 92, .nilCheck (.tmp 91), 0, "law.go:112", #[⟨56, .data⟩, ⟨49, .guard⟩], some (49, false)⟩) (by kernel_rfl) (by kernel_rfl) (by kernel_rfl) (by kernel_rfl) (fun _ _ _ h => h) (Or.inl ⟨by kernel_rfl, ?hy57⟩) (by assumption) ?_
       case hy57 => (intro wI hSw; (try dsimp only at hSw); go_simp; try with_reducible rfl)
       try simp only [Act.put, lqD, lqE, lqF]
       refine wpAnyH_take (i := 58) (v := ?_) (oi := ⟨some 93, .fieldAddr 67 (.tmp 92) 4, 0, "law.go:112", #[⟨57, .data⟩, ⟨49, .guard⟩], some (49, false)⟩) (by kernel_rfl) (by kernel_rfl) (by kernel_rfl) (by kernel_rfl) (fun _ _ _ h => h) (Or.inl ⟨by kernel_rfl, ?hy58⟩) (by assumption) ?_
       case hy58 => (intro wI hSw; (try dsimp only at hSw); go_simp; try with_reducible rfl)
       try simp only [Act.put, lqD, lqE, lqF]
       refine wpAnyH_take (i := 59) (v := ?_) (oi := ⟨some 94, .load 43 (.tmp 93), 43, "law.go:112", #[⟨58, .data⟩, ⟨49, .guard⟩], some (49, false)⟩) (by kernel_rfl) (by kernel_rfl) (by kernel_rfl) (by kernel_rfl) (fun _ _ _ h => h) (Or.inl ⟨by kernel_rfl, ?hy59⟩) (by assumption) ?_
       case hy59 => (intro wI hSw; (try dsimp only at hSw); have t0 := (HCC.out _ hSw).lt; have t1 := (HCC.out _ hSw).b0; have t2 := (HCC.out _ hSw).b1; have t3 := (HCC.out _ hSw).b2; have t4 := (HCC.out _ hSw).b3; have t5 := (HCC.out _ hSw).b4; have t6 := (HCC.out _ hSw).b5; have t7 := (HCC.out _ hSw).b6; have t8 := (HCC.out _ hSw).b7; have t9 := (HCC.out _ hSw).b8; have t10 := (HCC.out _ hSw).b9; go_simp; try with_reducible rfl)
       try simp only [Act.put, lqD, lqE, lqF]
       refine wpAnyH_ready (rs := [55]) (by kernel_rfl) (by simp) ?_
       refine AllReadyH.cons (o := ⟨some 90, .call { callee := .value (.func 49), args := #[.tmp 85, .tmp 89], argTypes := #[23, 3] }, 43, "law.go:112", #[⟨50, .data⟩, ⟨54, .data⟩, ⟨49, .chain⟩, ⟨49, .guard⟩], some (49, false)⟩) (by kernel_rfl) (fun K hK => ?_) AllReadyH.nil
       rw [if_pos (by kernel_rfl)]
       go_simp
       go_wp2_with fail
       refine (HCA.out W46 hHeld).mono ?_
       rintro e W55 ⟨r, rfl, hro, _, hrq, hb⟩
       have hH2 := Below.on hHeld hb
       refine hK.out _ _ hH2 (fun _ => ?_)
       clear hK K hHeld hb
       have hHeld := hH2
       clear hH2
       try simp only [Act.put, lqD, lqE, lqF]
       refine wpAnyH_ready (rs := [60]) (by kernel_rfl) (by simp) ?_
       refine AllReadyH.cons (o := ⟨some 95, .call { callee := .value (.func 22), args := #[.tmp 90, .tmp 94], argTypes := #[43, 43] }, 4, "law.go:112", #[⟨55, .data⟩, ⟨59, .data⟩, ⟨55, .chain⟩, ⟨49, .guard⟩], some (49, false)⟩) (by kernel_rfl) (fun K hK => ?_) AllReadyH.nil
       rw [if_pos (by kernel_rfl)]
       go_simp
       go_wp2_with fail
       refine (HSCA.out r W55 hHeld hro hrq).mono ?_
       rintro e W60 ⟨rfl, hb⟩
       clear hro hrq
       have hH2 := Below.on hHeld hb
       refine hK.out _ _ hH2 (fun _ => ?_)
       clear hK K hHeld hb
       have hHeld := hH2
       clear hH2
       try simp only [Act.put, lqD, lqE, lqF]
       refine wpAnyH_take (i := 61) (v := ?_) (oi := ⟨some 96, .unOp .not 4 (.tmp 95), 4, "law.go:112", #[⟨60, .data⟩, ⟨49, .guard⟩], some (49, false)⟩) (by kernel_rfl) (by kernel_rfl) (by kernel_rfl) (by kernel_rfl) (fun _ _ _ h => h) (Or.inl ⟨by kernel_rfl, ?hy61⟩) (by assumption) ?_
       case hy61 => (intro wI hSw; (try dsimp only at hSw); go_simp; try with_reducible rfl)
       try simp only [Act.put, lqD, lqE, lqF]
       refine wpAnyH_take (i := 62) (v := ?_) (oi := ⟨some 97, .pick (.tmp 84) (.const (Value.bool true)) (.tmp 96), 4, "law.go:112", #[⟨49, .data⟩, ⟨61, .data⟩], none⟩) (by kernel_rfl) (by kernel_rfl) (by kernel_rfl) (by kernel_rfl) (fun _ _ _ h => h) (Or.inl ⟨by kernel_rfl, ?hy62⟩) (by assumption) ?_
       case hy62 => (intro wI hSw; (try dsimp only at hSw); go_simp; try with_reducible rfl)
       try simp only [Act.put, lqD, lqE, lqF]
       refine wpAnyH_take (i := 63) (v := ?_) (oi := ⟨some 98, .move (.tmp 97), 4, "law.go:112", #[⟨62, .data⟩, ⟨60, .chain⟩], none⟩) (by kernel_rfl) (by kernel_rfl) (by kernel_rfl) (by kernel_rfl) (fun _ _ _ h => h) (Or.inl ⟨by kernel_rfl, ?hy63⟩) (by assumption) ?_
       case hy63 => (intro wI hSw; (try dsimp only at hSw); go_simp; try with_reducible rfl)
       try simp only [Act.put, lqD, lqE, lqF]
       as_aux_lemma =>
        refine wpAnyH_take (i := 64) (v := ?_) (oi := ⟨some 99, .move (.tmp 0), 23, "law.go:112", #[⟨63, .guard⟩], some (63, false)⟩) (by kernel_rfl) (by kernel_rfl) (by kernel_rfl) (by kernel_rfl) (fun _ _ _ h => h) (Or.inl ⟨by kernel_rfl, ?hy64⟩) (by assumption) ?_
        case hy64 => (intro wI hSw; (try dsimp only at hSw); go_simp; try with_reducible rfl)
        try simp only [Act.put, lqD, lqE, lqF]
        refine wpAnyH_take (i := 65) (v := ?_) (oi := ⟨some 100, .move (.tmp 7), 62, "law.go:112", #[⟨63, .guard⟩], some (63, false)⟩) (by kernel_rfl) (by kernel_rfl) (by kernel_rfl) (by kernel_rfl) (fun _ _ _ h => h) (Or.inl ⟨by kernel_rfl, ?hy65⟩) (by assumption) ?_
        case hy65 => (intro wI hSw; (try dsimp only at hSw); go_simp; try with_reducible rfl)
        try simp only [Act.put, lqD, lqE, lqF]
        refine wpAnyH_take (i := 66) (v := ?_) (oi := ⟨some 101, .nilCheck (.tmp 100), 0, "law.go:112", #[⟨65, .data⟩, ⟨63, .guard⟩], some (63, false)⟩) (by kernel_rfl) (by kernel_rfl) (by kernel_rfl) (by kernel_rfl) (fun _ _ _ h => h) (Or.inl ⟨by kernel_rfl, ?hy66⟩) (by assumption) ?_
        case hy66 => (intro wI hSw; (try dsimp only at hSw); go_simp; try with_reducible rfl)
        try simp only [Act.put, lqD, lqE, lqF]
        refine wpAnyH_take (i := 67) (v := ?_) (oi := ⟨some 102, .fieldAddr 67 (.tmp 101) 0, 0, "law.go:112", #[⟨66, .data⟩, ⟨63, .guard⟩], some (63, false)⟩) (by kernel_rfl) (by kernel_rfl) (by kernel_rfl) (by kernel_rfl) (fun _ _ _ h => h) (Or.inl ⟨by kernel_rfl, ?hy67⟩) (by assumption) ?_
        case hy67 => (intro wI hSw; (try dsimp only at hSw); go_simp; try with_reducible rfl)
        try simp only [Act.put, lqD, lqE, lqF]
        refine wpAnyH_take (i := 68) (v := ?_) (oi := ⟨some 103, .load 3 (.tmp 102), 3, "law.go:112", #[⟨67, .data⟩, ⟨63, .guard⟩], some (63, false)⟩) (by kernel_rfl) (by kernel_rfl) (by kernel_rfl) (by kernel_rfl) (fun _ _ _ h => h) (Or.inl ⟨by kernel_rfl, ?hy68⟩) (by assumption) ?_
        case hy68 => (intro wI hSw; (try dsimp only at hSw); have t0 := (HCC.out _ hSw).lt; have t1 := (HCC.out _ hSw).c0; go_simp; try with_reducible rfl)
        try simp only [Act.put, lqD, lqE, lqF]
        refine wpAnyH_take (i := 70) (v := ?_) (oi := ⟨some 105, .move (.tmp 7), 62, "law.go:112", #[⟨63, .guard⟩], some (63, false)⟩) (by kernel_rfl) (by kernel_rfl) (by kernel_rfl) (by kernel_rfl) (fun _ _ _ h => h) (Or.inl ⟨by kernel_rfl, ?hy70⟩) (by assumption) ?_
        case hy70 => (intro wI hSw; (try dsimp only at hSw); go_simp; try with_reducible rfl)
        try simp only [Act.put, lqD, lqE, lqF]
        refine wpAnyH_take (i := 71) (v := ?_) (oi := ⟨some 106, .nilCheck (.tmp 105), 0, "law.go:112", #[⟨70, .data⟩, ⟨63, .guard⟩], some (63, false)⟩) (by kernel_rfl) (by kernel_rfl) (by kernel_rfl) (by kernel_rfl) (fun _ _ _ h => h) (Or.inl ⟨by kernel_rfl, ?hy71⟩) (by assumption) ?_
        case hy71 => (intro wI hSw; (try dsimp only at hSw); go_simp; try with_reducible rfl)
        try simp only [Act.put, lqD, lqE, lqF]
        refine wpAnyH_take (i := 72) (v := ?_) (oi := ⟨some 107, .fieldAddr 67 (.tmp 106) 5, 0, "law.go:112", #[⟨71, .data⟩, ⟨63, .guard⟩], some (63, false)⟩) (by kernel_rfl) (by kernel_rfl) (by kernel_rfl) (by kernel_rfl) (fun _ _ _ h => h) (Or.inl ⟨by kernel_rfl, ?hy72⟩) (by assumption) ?_
        case hy72 => (intro wI hSw; (try dsimp only at hSw); go_simp; try with_reducible rfl)
        try simp only [Act.put, lqD, lqE, lqF]
        refine wpAnyH_take (i := 73) (v := ?_) (oi := ⟨some 108, .load 43 (.tmp 107), 43, "law.go:112", #[⟨72, .data⟩, ⟨63, .guard⟩], some (63, false)⟩) (by kernel_rfl) (by kernel_rfl) (by kernel_rfl) (by kernel_rfl) (fun _ _ _ h => h) (Or.inl ⟨by kernel_rfl, ?hy73⟩) (by assumption) ?_
        case hy73 => (intro wI hSw; (try dsimp only at hSw); have t0 := (HCC.out _ hSw).lt; have t1 := (HCC.out _ hSw).n0; have t2 := (HCC.out _ hSw).n1; have t3 := (HCC.out _ hSw).n2; have t4 := (HCC.out _ hSw).n3; have t5 := (HCC.out _ hSw).n4; have t6 := (HCC.out _ hSw).n5; have t7 := (HCC.out _ hSw).n6; have t8 := (HCC.out _ hSw).n7; have t9 := (HCC.out _ hSw).n8; have t10 := (HCC.out _ hSw).n9; go_simp; try with_reducible rfl)
        try simp only [Act.put, lqD, lqE, lqF]
        refine wpAnyH_ready (rs := [69]) (by kernel_rfl) (by simp) ?_
        refine AllReadyH.cons (o := ⟨some 104, .call { callee := .value (.func 11), args := #[.tmp 99, .tmp 103], argTypes := #[23, 3] }, 43, "law.go:112", #[⟨64, .data⟩, ⟨68, .data⟩, ⟨63, .chain⟩, ⟨63, .guard⟩], some (63, false)⟩) (by kernel_rfl) (fun K hK => ?_) AllReadyH.nil
        rw [if_pos (by kernel_rfl)]
        go_simp
        go_wp2_with fail
        refine (HNO.out W60 hHeld).mono ?_
        rintro e W69 ⟨r, rfl, hro, _, hrq, hb⟩
        have hH2 := Below.on hHeld hb
        refine hK.out _ _ hH2 (fun _ => ?_)
        clear hK K hHeld hb
        have hHeld := hH2
        clear hH2
        try simp only [Act.put, lqD, lqE, lqF]
        refine wpAnyH_ready (rs := [74]) (by kernel_rfl) (by simp) ?_
        refine AllReadyH.cons (o := ⟨some 109, .call { callee := .value (.func 22), args := #[.tmp 104, .tmp 108], argTypes := #[43, 43] }, 4, "law.go:112", #[⟨69, .data⟩, ⟨73, .data⟩, ⟨69, .chain⟩, ⟨63, .guard⟩], some (63, false)⟩) (by kernel_rfl) (fun K hK => ?_) AllReadyH.nil
        rw [if_pos (by kernel_rfl)]
        go_simp
        go_wp2_with fail
        refine (HSNO.out r W69 hHeld hro hrq).mono ?_
        rintro e W74 ⟨rfl, hb⟩
        clear hro hrq
        have hH2 := Below.on hHeld hb
        refine hK.out _ _ hH2 (fun _ => ?_)
        clear hK K hHeld hb
        have hHeld := hH2
        clear hH2
        try simp only [Act.put, lqD, lqE, lqF]
        refine wpAnyH_take (i := 75) (v := ?_) (oi := ⟨some 110, .unOp .not 4 (.tmp 109), 4, "law.go:112", #[⟨74, .data⟩, ⟨63, .guard⟩], some (63, false)⟩) (by kernel_rfl) (by kernel_rfl) (by kernel_rfl) (by kernel_rfl) (fun _ _ _ h => h) (Or.inl ⟨by kernel_rfl, ?hy75⟩) (by assumption) ?_
        case hy75 => (intro wI hSw; (try dsimp only at hSw); go_simp; try with_reducible rfl)
        try simp only [Act.put, lqD, lqE, lqF]
        refine wpAnyH_take (i := 76) (v := ?_) (oi := ⟨some 111, .pick (.tmp 98) (.const (Value.bool true)) (.tmp 110), 4, "law.go:112", #[⟨63, .data⟩, ⟨75, .data⟩], none⟩) (by kernel_rfl) (by kernel_rfl) (by kernel_rfl) (by kernel_rfl) (fun _ _ _ h => h) (Or.inl ⟨by kernel_rfl, ?hy76⟩) (by assumption) ?_
        case hy76 => (intro wI hSw; (try dsimp only at hSw); go_simp; try with_reducible rfl)
        try simp only [Act.put, lqD, lqE, lqF]
        refine wpAnyH_take (i := 77) (v := ?_) (oi := ⟨some 112, .move (.tmp 111), 4, "law.go:112", #[⟨76, .data⟩, ⟨74, .chain⟩], none⟩) (by kernel_rfl) (by kernel_rfl) (by kernel_rfl) (by kernel_rfl) (fun _ _ _ h => h) (Or.inl ⟨by kernel_rfl, ?hy77⟩) (by assumption) ?_
        case hy77 => (intro wI hSw; (try dsimp only at hSw); go_simp; try with_reducible rfl)
        try simp only [Act.put, lqD, lqE, lqF]
        as_aux_lemma =>
         refine wpAnyH_take (i := 78) (v := ?_) (oi := ⟨some 113, .move (.tmp 0), 23, "law.go:112", #[⟨77, .guard⟩], some (77, false)⟩) (by kernel_rfl) (by kernel_rfl) (by kernel_rfl) (by kernel_rfl) (fun _ _ _ h => h) (Or.inl ⟨by kernel_rfl, ?hy78⟩) (by assumption) ?_
         case hy78 => (intro wI hSw; (try dsimp only at hSw); go_simp; try with_reducible rfl)
         try simp only [Act.put, lqD, lqE, lqF]
         refine wpAnyH_take (i := 79) (v := ?_) (oi := ⟨some 114, .move (.tmp 7), 62, "law.go:112", #[⟨77, .guard⟩], some (77, false)⟩) (by kernel_rfl) (by kernel_rfl) (by kernel_rfl) (by kernel_rfl) (fun _ _ _ h => h) (Or.inl ⟨by kernel_rfl, ?hy79⟩) (by assumption) ?_
         case hy79 => (intro wI hSw; (try dsimp only at hSw); go_simp; try with_reducible rfl)
         try simp only [Act.put, lqD, lqE, lqF]
         refine wpAnyH_take (i := 80) (v := ?_) (oi := ⟨some 115, .nilCheck (.tmp 114), 0, "law.go:112", #[⟨79, .data⟩, ⟨77, .guard⟩], some (77, false)⟩) (by kernel_rfl) (by kernel_rfl) (by kernel_rfl) (by kernel_rfl) (fun _ _ _ h => h) (Or.inl ⟨by kernel_rfl, ?hy80⟩) (by assumption) ?_
         case hy80 => (intro wI hSw; (try dsimp only at hSw); go_simp; try with_reducible rfl)
         try simp only [Act.put, lqD, lqE, lqF]
         refine wpAnyH_take (i := 81) (v := ?_) (oi := ⟨some 116, .fieldAddr 67 (.tmp 115) 0, 0, "law.go:112", #[⟨80, .data⟩, ⟨77, .guard⟩], some (77, false)⟩) (by kernel_rfl) (by kernel_rfl) (by kernel_rfl) (by kernel_rfl) (fun _ _ _ h => h) (Or.inl ⟨by kernel_rfl, ?hy81⟩) (by assumption) ?_
         case hy81 => (intro wI hSw; (try dsimp only at hSw); go_simp; try with_reducible rfl)
         try simp only [Act.put, lqD, lqE, lqF]
         refine wpAnyH_take (i := 82) (v := ?_) (oi := ⟨some 117, .load 3 (.tmp 116), 3, "law.go:112", #[⟨81, .data⟩, ⟨77, .guard⟩], some (77, false)⟩) (by kernel_rfl) (by kernel_rfl) (by kernel_rfl) (by kernel_rfl) (fun _ _ _ h => h) (Or.inl ⟨by kernel_rfl, ?hy82⟩) (by assumption) ?_
         case hy82 => (intro wI hSw; (try dsimp only at hSw); have t0 := (HCC.out _ hSw).lt; have t1 := (HCC.out _ hSw).c0; go_simp; try with_reducible rfl)
         try simp only [Act.put, lqD, lqE, lqF]
         refine wpAnyH_take (i := 84) (v := ?_) (oi := ⟨some 119, .move (.tmp 1), 25, "law.go:112", #[⟨77, .guard⟩], some (77, false)⟩) (by kernel_rfl) (by kernel_rfl) (by kernel_rfl) (by kernel_rfl) (fun _ _ _ h => h) (Or.inl ⟨by kernel_rfl, ?hy84⟩) (by assumption) ?_
         case hy84 => (intro wI hSw; (try dsimp only at hSw); go_simp; try with_reducible rfl)
         try simp only [Act.put, lqD, lqE, lqF]
         refine wpAnyH_take (i := 85) (v := ?_) (oi := ⟨some 120, .move (.tmp 7), 62, "law.go:112", #[⟨77, .guard⟩], some (77, false)⟩) (by kernel_rfl) (by kernel_rfl) (by kernel_rfl) (by kernel_rfl) (fun _ _ _ h => h) (Or.inl ⟨by kernel_rfl, ?hy85⟩) (by assumption) ?_
         case hy85 => (intro wI hSw; (try dsimp only at hSw); go_simp; try with_reducible rfl)
         try simp only [Act.put, lqD, lqE, lqF]
         refine wpAnyH_take (i := 86) (v := ?_) (oi := ⟨some 121, .nilCheck (.tmp 120), 0, "law.go:112", #[⟨85, .data⟩, ⟨77, .guard⟩], some (77, false)⟩) (by kernel_rfl) (by kernel_rfl) (by kernel_rfl) (by kernel_rfl) (fun _ _ _ h => h) (Or.inl ⟨by kernel_rfl, ?hy86⟩) (by assumption) ?_
         case hy86 => (intro wI hSw; (try dsimp only at hSw); go_simp; try with_reducible rfl)
         try simp only [Act.put, lqD, lqE, lqF]
         refine wpAnyH_take (i := 87) (v := ?_) (oi := ⟨some 122, .fieldAddr 67 (.tmp 121) 0, 0, "law.go:112", #[⟨86, .data⟩, ⟨77, .guard⟩], some (77, false)⟩) (by kernel_rfl) (by kernel_rfl) (by kernel_rfl) (by kernel_rfl) (fun _ _ _ h => h) (Or.inl ⟨by kernel_rfl, ?hy87⟩) (by assumption) ?_
         case hy87 => (intro wI hSw; (try dsimp only at hSw); go_simp; try with_reducible rfl)
         try simp only [Act.put, lqD, lqE, lqF]
         refine wpAnyH_take (i := 88) (v := ?_) (oi := ⟨some 123, .load 3 (.tmp 122), 3, "law.go:112", #[⟨87, .data⟩, ⟨77, .guard⟩], some (77, false)⟩) (by kernel_rfl) (by kernel_rfl) (by kernel_rfl) (by kernel_rfl) (fun _ _ _ h => h) (Or.inl ⟨by kernel_rfl, ?hy88⟩) (by assumption) ?_
         case hy88 => (intro wI hSw; (try dsimp only at hSw); have t0 := (HCC.out _ hSw).lt; have t1 := (HCC.out _ hSw).c0; go_simp; try with_reducible rfl)
         try simp only [Act.put, lqD, lqE, lqF]
         refine wpAnyH_ready (rs := [83]) (by kernel_rfl) (by simp) ?_
         refine AllReadyH.cons (o := ⟨some 118, .call { callee := .value (.func 9), args := #[.tmp 113, .tmp 117], argTypes := #[23, 3] }, 38, "law.go:112", #[⟨78, .data⟩, ⟨82, .data⟩, ⟨77, .chain⟩, ⟨77, .guard⟩], some (77, false)⟩) (by kernel_rfl) (fun K hK => ?_) AllReadyH.nil
         rw [if_pos (by kernel_rfl)]
         go_simp
         go_wp2_with fail
         refine (HWK1.out W74 hHeld).mono ?_
         rintro e W83 ⟨ak, ck, rfl, hrk, hb⟩
         have hH2 := Below.on hHeld hb
         refine hK.out _ _ hH2 (fun _ => ?_)
         clear hK K hHeld hb
         have hHeld := hH2
         clear hH2
         try simp only [Act.put, lqD, lqE, lqF]
         refine wpAnyH_ready (rs := [89]) (by kernel_rfl) (by simp) ?_
         refine AllReadyH.cons (o := ⟨some 124, .call { callee := .value (.func 50), args := #[.tmp 119, .tmp 123], argTypes := #[25, 3] }, 38, "law.go:112", #[⟨84, .data⟩, ⟨88, .data⟩, ⟨83, .chain⟩, ⟨77, .guard⟩], some (77, false)⟩) (by kernel_rfl) (fun K hK => ?_) AllReadyH.nil
         rw [if_pos (by kernel_rfl)]
         go_simp
         go_wp2_with fail
         refine (HWK2.out W83 hHeld).mono ?_
         rintro e W89 ⟨am, cm, rfl, hrm, hb⟩
         replace hrk := hrk.on hb
         have hH2 := Below.on hHeld hb
         refine hK.out _ _ hH2 (fun _ => ?_)
         clear hK K hHeld hb
         have hHeld := hH2
         clear hH2
         try simp only [Act.put, lqD, lqE, lqF]
         refine wpAnyH_ready (rs := [90]) (by kernel_rfl) (by simp) ?_
         refine AllReadyH.cons (o := ⟨some 125, .call { callee := .value (.func 20), args := #[.tmp 118, .tmp 124], argTypes := #[38, 38] }, 4, "law.go:112", #[⟨83, .data⟩, ⟨89, .data⟩, ⟨89, .chain⟩, ⟨77, .guard⟩], some (77, false)⟩) (by kernel_rfl) (fun K hK => ?_) AllReadyH.nil
         rw [if_pos (by kernel_rfl)]
         go_simp
         go_wp2_with fail
         refine (samechildren_any _ _ _ _ _ _ _ _ W89 hrk hrm).mono ?_
         rintro e W90 ⟨rfl, qk, rfl⟩
         rw [leqs_same]
         have hH2 := Below.on hHeld (below_drewN (Below.refl _ W89) qk)
         refine hK.out _ _ hH2 (fun _ => ?_)
         clear hK K hHeld hrk hrm
         have hHeld := hH2
         clear hH2
         generalize W89.drewN qk = W90 at *
         try simp only [Act.put, lqD, lqE, lqF]
         refine wpAnyH_take (i := 91) (v := ?_) (oi := ⟨some 126, .unOp .not 4 (.tmp 125), 4, "law.go:112", #[⟨90, .data⟩, ⟨77, .guard⟩], some (77, false)⟩) (by kernel_rfl) (by kernel_rfl) (by kernel_rfl) (by kernel_rfl) (fun _ _ _ h => h) (Or.inl ⟨by kernel_rfl, ?hy91⟩) (by assumption) ?_
         case hy91 => (intro wI hSw; (try dsimp only at hSw); go_simp; try with_reducible rfl)
         try simp only [Act.put, lqD, lqE, lqF]
         refine wpAnyH_take (i := 92) (v := ?_) (oi := ⟨some 127, .pick (.tmp 112) (.const (Value.bool true)) (.tmp 126), 4, "law.go:112", #[⟨77, .data⟩, ⟨91, .data⟩], none⟩) (by kernel_rfl) (by kernel_rfl) (by kernel_rfl) (by kernel_rfl) (fun _ _ _ h => h) (Or.inl ⟨by kernel_rfl, ?hy92⟩) (by assumption) ?_
         case hy92 => (intro wI hSw; (try dsimp only at hSw); go_simp; try with_reducible rfl)
         try simp only [Act.put, lqD, lqE, lqF]
         refine wpAnyH_done (by kernel_rfl) ?_ _
         have HH := hid hHeld
         clear hHeld
         go_wp2
         go_roundw
         case rel => exact ⟨j + 1, by go_num, by omega, Below.on HW.out HH.out⟩
         case measure => simp [numOf]; omega
  ·have e1 : decide ((j : Int) < n) = false := decide_eq_false (by omega)
   have HBW := hid hbw
   clear hrr hbw
   go_wp2
   go_ret
   exact ⟨rfl, HBW.out⟩
end
end Go.Proofs.YtdgknofpkafppaaGreatDoor
