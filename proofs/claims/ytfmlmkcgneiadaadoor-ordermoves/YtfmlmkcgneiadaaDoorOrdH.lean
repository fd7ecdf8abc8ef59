/- awake of law 16: the document's example. -/
import Derived.Test.YtfmlmkcgneiadaaDoorOrdE
import Derived.Test.YtfmlmkcgneiadaaDoorKindA
namespace Go.Proofs.YtfmlmkcgneiadaaDoor
open Go Go.RowKit

theorem pl_of {w : World} {es : List Addr} (h : Errs w gerrs es) : ∃ p, es[10]? = some p ∧ Pl w p := by
  have hl : es.length = 16 := h.len
  have e : es[10]? = some (es[10]'(by omega)) := List.getElem?_eq_getElem (by omega)
  exact ⟨_, e, ⟨(h.each 10 _ _ rfl e).1⟩⟩

set_option maxRecDepth 100000 in
set_option maxHeartbeats 1000000 in
theorem awake_any (w : World) (es : List Addr) (hE : Errs w gerrs es) :
    Calls Tryd.prog 6 #[] w fun e w' => e = .returned (.bool true) ∧ Below w.heap.size w w' := by
  obtain ⟨p, hp, hP⟩ := pl_of hE
  have HP := hid hP
  have HE := hid hE
  have HPE := hid hp
  have hb0 : ∀ (u : World) (o : Obj), Below u.heap.size u (u.alloc o) := fun u o => (Below.refl _ _).alloc (Nat.le_refl _) _
  have HB0 := hid hb0
  clear hp hP hE hb0
  go_enter Tryd.func6, Tryd.ntmps6
  go_wp2_with fail
  refine (above_any _ 3 3 [1, 2, 3] 1 2 _ p (HP.out.on (HB0.out w _)) (rz_lit (l := [1, 2, 3]) (heap_alloc_new w _) (by decide)) (by decide)).mono ?_
  rintro e w1 h1
  rw [show bes [1, 2, 3] 1 2 1 = some [2, 1, 3] by decide] at h1
  obtain ⟨v1, rfl, ho1⟩ := h1
  have hb1 := Below.on (HB0.out w _) ho1.bel
  obtain ⟨a1, c1, rfl, hr1, -⟩ := ho1.rd
  have HR1 := hid hr1
  have HB1 := hid hb1
  clear ho1 hr1 hb1
  go_wp2_with fail
  refine (below_any _ 1 1 [1] 1 1 _ p (HP.out.on (Below.on HB1.out (HB0.out w1 _))) (rz_lit (l := [1]) (heap_alloc_new w1 _) (by decide)) (by decide)).mono ?_
  rintro e w2 h2
  rw [show bes [1] 1 1 0 = none by decide] at h2
  obtain ⟨rfl, hb2⟩ := h2
  have HR2 := hid (HR1.out.on (Below.on (HB0.out w1 _) hb2))
  have HB2 := hid (Below.on (Below.on HB1.out (HB0.out w1 _)) hb2)
  clear hb2 HR1 HB1
  go_wp2_with fail
  refine (samez_any a1 _ 3 c1 3 3 [2, 1, 3] [2, 1, 3] _ (HR2.out.on (HB0.out w2 _)) (rz_lit (l := [2, 1, 3]) (heap_alloc_new w2 _) (by decide))).mono ?_
  rintro e w3 ⟨rfl, q3, rfl⟩
  rw [zeq_same]
  have HB3 := hid (below_drewN (Below.on HB2.out (HB0.out w2 (.cells #[.int .i64 2, .int .i64 1, .int .i64 3] 3))) q3)
  have HK := hid (kind_any _ es (HE.out.below HB3.out) 10 p HPE.out)
  clear HB2 HR2
  go_wp2_with fail
  refine HK.out.mono ?_
  rintro e w4 ⟨rfl, hb4⟩
  have HB4 := hid (Below.on HB3.out hb4)
  clear hb4 HB3 HK
  go_wp2
  go_ret
  exact ⟨rfl, HB4.out⟩
end Go.Proofs.YtfmlmkcgneiadaaDoor
