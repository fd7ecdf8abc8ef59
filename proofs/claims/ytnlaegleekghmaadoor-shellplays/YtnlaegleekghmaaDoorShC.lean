/- The program's windows: New, find, Has, isTop, findTop, IsTop, Mapped. -/
import Derived.Test.YtnlaegleekghmaaDoorShB
import Derived.Deep.DeepHandedRow
namespace Go.Proofs.YtnlaegleekghmaaDoor
open Go Go.RowKit

/-- A number that is an int. -/
def Bw (z : Int) : Prop := -9223372036854775808 ≤ z ∧ z ≤ 9223372036854775807
variable {base : Nat} {w w' : World} {p m : Nat} {L : Pwl} {id : Int} {es : List Addr} {e : Pw}
theorem kBw (id : Int) (h : Bw id) : keyOf Tryd.prog 3 (.int .i64 id) = some (.int .i64 id) :=
  Maps.keyOf_int_mk Tryd.underlying3 (by unfold Bw at h; simp [Lit.wf, IntKind.min, IntKind.max, IntKind.signed, IntKind.bits]; omega)
theorem zPw (w : World) : (zeroValue 62).run Tryd.prog w = .ok (pwv none) w := by kernel_rfl
def wto (L : Pwl) (id : Int) : Option Nat := (gt L id).map (·.g)
theorem Sh.look (h : Sh base w p m L) : ∃ D, w.ownsMap Tryd.prog 3 pwR m L.length D ∧ ∀ k : Int, Maps.has D (.int .i64 k) = (gt L k).isSome ∧ D.atKey (.int .i64 k) (pwd none) = pwd (wto L k) := by
  obtain ⟨D, h1, h2⟩ := h.own
  refine ⟨D, h1, fun k => ?_⟩
  obtain ⟨h3, h4⟩ := h2 k
  rw [gt_wmp] at h3 h4
  refine ⟨by rw [h3]; cases gt L k <;> rfl, ?_⟩
  rw [h4, wto]
  cases gt L k <;> rfl
theorem erw0 (es : List Addr) : erv es 0 = .nilIface := rfl
theorem erw_succ (es : List Addr) (k : Nat) : erv es (k + 1) = .iface 88 (.pointer (some (es.getD k ⟨0, 0, none⟩))) := rfl

set_option maxRecDepth 100000 in
theorem snew_any (w : World) : Calls Tryd.prog 7 #[] w fun e w' => e = .returned (.pointer (some ⟨w.heap.size + 1, 0, none⟩)) ∧ Below w.heap.size w w' ∧ ∀ base, base ≤ w.heap.size → Sh base w' (w.heap.size + 1) w.heap.size [] := by
  have H0 := hid (World.ownsMap_made w Tryd.prog 3 pwR)
  have hmm := @run_makeMap Tryd.prog
  go_enter Tryd.func7, Tryd.ntmps7
  go_wp2
  go_ret
  have hb : Below w.heap.size w (w.alloc (.map #[] 0)) := (Below.refl w.heap.size w).alloc (Nat.le_refl _) _
  refine ⟨by simp, hb.alloc hb.size _, fun base hbase => ⟨by omega, hbase, by omega, ?_, ⟨_, H0.out.alloc _, rp_empty _ _⟩, List.nodup_nil, ?_, ?_, ?_, ?_⟩⟩
  · have := heap_alloc_new (w.alloc (.map #[] 0)) (.cells #[.map (some w.heap.size)] 59 (0, 0))
    simpa using this
  · intro x e h
    cases h
  · intro x e h
    cases h
  · intro x e h
    cases h
  · intro x y e e' h
    cases h

set_option maxRecDepth 100000 in
theorem sfind_no (hE : We w es) (h : Sh base w p m L) (id : Int) (hi : Bw id) (hq : gt L id = none) :
    Calls Tryd.prog 33 #[.pointer (some ⟨p, 0, none⟩), .int .i64 id] w fun e w' => e = .returned (.tuple #[.pointer none, erv es 5]) ∧ ∃ q, w' = w.drewN q := by
  obtain ⟨D, ho, hA⟩ := h.look
  have HO := hid ho
  have HA := hid (hA id)
  have HZ := hid (zPw w)
  have HK := hid (kBw id hi)
  have c0 := h.c0
  have l0 := h.lt.1
  rw [hq, show wto L id = none by rw [wto, hq]; rfl] at HA
  have c5 := hE.obj
  have l5 := World.block_lt_of_cell? _ _ c5
  clear hq h ho hA hE
  go_enter Tryd.func33, Tryd.ntmps33
  go_wp2_with (at_lookup; refine wpList_lookup_own_ok _ rfl (.tmp 12) (.tmp 13) 57 rfl 3 62 (Maps.int_keyed Tryd.underlying3) Tryd.underlying57 pwR HZ.out _ _ (pwR_mk none) m _ D rfl HO.out _ _ rfl HK.out ?_; intro v ps hv; rw [HA.out.2] at hv; obtain rfl := pwR_inv hv; rw [HA.out.1, Option.isSome_none]; clear hv)
  go_region
  go_wp2
  go_ret2
  exact ⟨rfl, 1, rfl⟩
set_option maxRecDepth 100000 in
theorem sfind_yes (h : Sh base w p m L) (id : Int) (hi : Bw id) (hq : gt L id = some e) :
    Calls Tryd.prog 33 #[.pointer (some ⟨p, 0, none⟩), .int .i64 id] w fun e' w' => e' = .returned (.tuple #[.pointer (some ⟨e.g, 0, none⟩), .nilIface]) ∧ w' = w := by
  obtain ⟨D, ho, hA⟩ := h.look
  have HO := hid ho
  have HA := hid (hA id)
  have HZ := hid (zPw w)
  have HK := hid (kBw id hi)
  have c0 := h.c0
  have l0 := h.lt.1
  rw [hq, show wto L id = some e.g by rw [wto, hq]; rfl] at HA
  clear hq h ho hA
  go_enter Tryd.func33, Tryd.ntmps33
  go_wp2_with (at_lookup; refine wpList_lookup_own_ok _ rfl (.tmp 12) (.tmp 13) 57 rfl 3 62 (Maps.int_keyed Tryd.underlying3) Tryd.underlying57 pwR HZ.out _ _ (pwR_mk none) m _ D rfl HO.out _ _ rfl HK.out ?_; intro v ps hv; rw [HA.out.2] at hv; obtain rfl := pwR_inv hv; rw [HA.out.1, Option.isSome_some]; clear hv)
  go_ret2
  exact ⟨rfl, rfl⟩
set_option maxRecDepth 100000 in
theorem shas_any (h : Sh base w p m L) (id : Int) (hi : Bw id) :
    Calls Tryd.prog 25 #[.pointer (some ⟨p, 0, none⟩), .int .i64 id] w fun e w' => e = .returned (.bool (wHas (wab L) id)) ∧ w' = w := by
  obtain ⟨D, ho, hA⟩ := h.look
  have HO := hid ho
  have HA := hid (hA id)
  have HZ := hid (zPw w)
  have HK := hid (kBw id hi)
  have HH : Hid (wHas (wab L) id = (gt L id).isSome) := by rw [Hid, wHas, gt_wab]; cases gt L id <;> rfl
  have c0 := h.c0
  have l0 := h.lt.1
  clear h ho hA
  rw [HH.out]
  go_enter Tryd.func25, Tryd.ntmps25
  go_wp2_with (at_lookup; refine wpList_lookup_own_ok _ rfl (.tmp 11) (.tmp 12) 57 rfl 3 62 (Maps.int_keyed Tryd.underlying3) Tryd.underlying57 pwR HZ.out _ _ (pwR_mk none) m _ D rfl HO.out _ _ rfl HK.out ?_; intro v ps hv; rw [HA.out.2] at hv; obtain rfl := pwR_inv hv; rw [HA.out.1]; clear hv)
  go_ret
  exact ⟨rfl, rfl⟩

theorem sistop_any {g k : Nat} (hc : w.cell? ⟨g, 0, none⟩ = some (.int .i64 k)) (_hg : g < w.heap.size) (t : Bool) (ht : decide (1 ≤ k) = t) :
    Calls Tryd.prog 34 #[.pointer (some ⟨g, 0, none⟩)] w fun e w' => e = .returned (.bool t) ∧ w' = w := by
  have ht' : decide ((1 : Int) ≤ (k : Nat)) = t := by rw [← ht]; simp; omega
  clear ht
  go_enter Tryd.func34, Tryd.ntmps34
  go_wp2
  go_ret
  exact ⟨rfl, rfl⟩
theorem sback_any {g k0 k : Nat} {a : Option Addr} {n c : Nat} (hc : w.cell? ⟨g, 0, none⟩ = some (.int .i64 k0)) (hc1 : w.cell? ⟨g, 1, none⟩ = some (.slice a n c)) (_hg : g < w.heap.size) (hf : ∀ j, w.frozen? ⟨g, j, none⟩ = false) :
    Calls Tryd.prog 36 #[.pointer (some ⟨g, 0, none⟩), .int .i64 k] w fun e w' => e = .returned undef ∧ w' = (w.setCell ⟨g, 0, none⟩ (.int .i64 k)).setCell ⟨g, 1, none⟩ (.slice none 0 0) := by
  go_enter Tryd.func36, Tryd.ntmps36
  go_wp2
  go_end0
  exact ⟨rfl, rfl⟩
end Go.Proofs.YtnlaegleekghmaaDoor
