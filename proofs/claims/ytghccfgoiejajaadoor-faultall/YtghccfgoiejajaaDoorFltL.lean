/- (*wrapped).Error. -/
import Derived.Test.YtghccfgoiejajaaDoorFltK
namespace Go.Proofs.YtghccfgoiejajaaDoor
open Go Go.RowKit

abbrev wB (w : World) : World := w.alloc (.cells #[.pointer none, .slice none 0 0] 105)
theorem wB_bld (w : World) : Bld w.heap.size [] (wB w) := .inl ⟨Nat.le_refl _, _, heap_new _ _, World.ownsRow_nil _ _ _ _, by simp [Value.ownBlock]⟩
theorem wB_below (w : World) : Below w.heap.size w (wB w) := (Below.refl _ _).alloc (Nat.le_refl _) _

/-- Two writes: an error's words, and the colon. -/
def Wrote (w : World) (l : List UInt8) (w' : World) : Prop := Bld w.heap.size l w' ∧ Below w.heap.size w w'

theorem wrote (w wr : World) (l : List UInt8) (s : ByteArray) (h : Wrote w l wr) (hlen : l.length + s.size ≤ 100000) :
    Calls Tryd.prog 54 #[.pointer (some ⟨w.heap.size, 0, none⟩), .string s] wr fun e w' => e = .returned (.tuple #[.int .i64 s.size, .nilIface]) ∧ Wrote w (l ++ s.data.toList) w' := by
  refine (bld_write w.heap.size l s wr h.1 hlen h.2.size).mono ?_
  rintro e w' ⟨rfl, h1, h2⟩
  exact ⟨rfl, h1, h.2.trans h2⟩

theorem wrote_string (w wr : World) (l : List UInt8) (h : Wrote w l wr) :
    Calls Tryd.prog 55 #[.pointer (some ⟨w.heap.size, 0, none⟩)] wr fun e w' => e = .returned (.string ⟨l.toArray⟩) ∧ Below w.heap.size w w' := by
  refine (builder_String w.heap.size w.heap.size l wr h.1 h.2.size).mono ?_
  rintro e w' ⟨rfl, h2⟩
  exact ⟨rfl, h.2.trans h2⟩

theorem bel_cell {w w' : World} (h : Below w.heap.size w w') {b k : Nat} {o : Obj} {v : Value} (hb : w.heap[b]? = some o) (hc : w.cell? ⟨b, k, none⟩ = some v) : w'.cell? ⟨b, k, none⟩ = some v := by
  rw [h.cell (p := ⟨b, k, none⟩) (Array.getElem?_eq_some_iff.1 hb).1]
  exact hc

theorem asW (v : Value) (w : World) : (Instr.typeAssert (.iface 48 v) 24 48 true).run Tryd.prog w = .ok (.tuple #[v, .bool true]) w := by kernel_rfl
theorem asWE (v : Value) (w : World) : (Instr.typeAssert (.iface 68 v) 24 48 true).run Tryd.prog w = .ok (.tuple #[.pointer none, .bool false]) w := by kernel_rfl
theorem asWF (v : Value) (w : World) : (Instr.typeAssert (.iface 40 v) 24 48 true).run Tryd.prog w = .ok (.tuple #[.pointer none, .bool false]) w := by kernel_rfl

set_option maxRecDepth 100000 in
theorem errorW (w : World) (b : Nat) (tot : List UInt8) (h : Tx w (eW b) tot) (hl : tot.length ≤ 100000) :
    Calls Tryd.prog 52 #[.pointer (some ⟨b, 0, none⟩)] w fun e w' => e = .returned (.string ⟨tot.toArray⟩) ∧ Below w.heap.size w w' := by
  have mE := mErrorE
  have mF := mErrorF
  have aW := asW
  have aE := asWE
  have aF := asWF
  have HL : Hid (tot.length ≤ 100000) := hl
  have HT : Hid (Tx w (eW b) tot) := h
  have H0 : Hid (Wrote w [] (wB w)) := ⟨wB_bld w, wB_below w⟩
  clear hl h
  go_enter Tryd.func52, Tryd.ntmps52
  go_wp2
  go_loopw [0] (fun p wr => ∃ b pre t, p = .pointer (some ⟨b, 0, none⟩) ∧ Tx w (eW b) t ∧ pre ++ t = tot ∧ Wrote w pre wr) (fun p _ => blockOf p)
  case atStart => exact ⟨b, [], tot, rfl, HT.out, rfl, H0.out⟩
  case round =>
    obtain ⟨b, pre, t, rfl, hT, hp, hW⟩ := hrel
    generalize hv : eW b = v0 at hT
    cases hT with
    | leaf a s h => cases hv
    | fault b' o c s v h => cases hv
    | wrap b' s v t h hr hT =>
      simp only [eW, Value.iface.injEq, Value.pointer.injEq, Option.some.injEq, Addr.mk.injEq, and_true, true_and] at hv
      subst hv
      have c0 : wr.cell? ⟨b, 0, none⟩ = some (.string s) := bel_cell hW.2 h (by rw [World.cell?, h]; rfl)
      have HP : Hid (pre ++ (s.data.toList ++ [58, 32] ++ t) = tot) := hp
      have HLs : Hid (pre.length + s.size + 2 + t.length ≤ 100000) := by
        have h1 := HL.out
        rw [← hp] at h1
        simp at h1
        show _ ≤ _
        omega
      have HW : Hid (Wrote w pre wr) := hW
      have HX : Hid (Tx w v t) := hT
      have HR : Hid (rank v < b + 1) := hr
      have HH : Hid (w.heap[b]? = some (.cells #[.string s, v] 50 (0, 0))) := h
      clear hp hW hT hr h
      go_wp2_with fail
      refine (wrote w wr pre s HW.out (by have := HLs.out; omega)).mono ?_
      rintro e w1 ⟨rfl, hw1⟩
      have HW1 : Hid (Wrote w (pre ++ s.data.toList) w1) := hw1
      clear hw1 c0
      go_wp2_with fail
      refine (wrote w w1 _ _ HW1.out (by have := HLs.out; have e2 : (⟨#[58, 32]⟩ : ByteArray).size = 2 := rfl; rw [e2]; simp; omega)).mono ?_
      rintro e w2 ⟨rfl, hw2⟩
      have HW2 : Hid (Wrote w (pre ++ s.data.toList ++ [58, 32]) w2) := hw2
      clear hw2
      have c1 : w2.cell? ⟨b, 1, none⟩ = some v := bel_cell HW2.out.2 HH.out (by rw [World.cell?, HH.out]; rfl)
      cases HX.out with
      | wrap b2 s2 v2 t2 h2 hr2 hv2 =>
        clear h2 hr2 hv2
        go_wp2
        go_round
        case rel => exact ⟨b2, pre ++ s.data.toList ++ [58, 32], _, rfl, HX.out, by rw [← HP.out]; simp, HW2.out⟩
        case measure => exact Nat.lt_of_succ_lt_succ HR.out
      | leaf a s2 hc =>
        have HS : Hid (pre ++ s.data.toList ++ [58, 32] ++ s2.data.toList = tot) := by
          show _ = _
          rw [← HP.out]; simp
        have HC : Hid (w2.cell? a = some (.string s2)) := by
          show _ = _
          rw [HW2.out.2.cell (World.block_lt_of_cell? w _ hc)]; exact hc
        clear hc
        go_wp2_with fail
        refine (errorE w2 a s2 HC.out).mono ?_
        rintro e w3 ⟨rfl, rfl⟩
        go_wp2_with fail
        refine (wrote w w3 _ s2 HW2.out (by have := HLs.out; simp at this ⊢; omega)).mono ?_
        rintro e w4 ⟨rfl, hw4⟩
        have HW4 : Hid (Wrote w (pre ++ s.data.toList ++ [58, 32] ++ s2.data.toList) w4) := hw4
        clear hw4
        go_wp2_with fail
        refine (wrote_string w w4 _ HW4.out).mono ?_
        rintro e w5 ⟨he, hb⟩
        rw [HS.out] at he
        subst he
        have HB5 : Hid (Below w.heap.size w w5) := hb
        clear hb
        go_wp2
        go_ret
        exact ⟨rfl, HB5.out⟩
      | fault b2 o c s2 v2 hc =>
        have HS : Hid (pre ++ s.data.toList ++ [58, 32] ++ s2.data.toList = tot) := by
          show _ = _
          rw [← HP.out]; simp
        have HC : Hid (w2.heap[b2]? = some (.cells #[.int .i64 o, .int .i64 c, .string s2, v2] 31 (0, 0))) := by
          show _ = _
          rw [HW2.out.2.block _ (Array.getElem?_eq_some_iff.1 hc).1]; exact hc
        clear hc
        go_wp2_with fail
        refine (errorF w2 b2 o c s2 v2 HC.out).mono ?_
        rintro e w3 ⟨rfl, rfl⟩
        go_wp2_with fail
        refine (wrote w w3 _ s2 HW2.out (by have := HLs.out; simp at this ⊢; omega)).mono ?_
        rintro e w4 ⟨rfl, hw4⟩
        have HW4 : Hid (Wrote w (pre ++ s.data.toList ++ [58, 32] ++ s2.data.toList) w4) := hw4
        clear hw4
        go_wp2_with fail
        refine (wrote_string w w4 _ HW4.out).mono ?_
        rintro e w5 ⟨he, hb⟩
        rw [HS.out] at he
        subst he
        have HB5 : Hid (Below w.heap.size w w5) := hb
        clear hb
        go_wp2
        go_ret
        exact ⟨rfl, HB5.out⟩
end Go.Proofs.YtghccfgoiejajaaDoor
