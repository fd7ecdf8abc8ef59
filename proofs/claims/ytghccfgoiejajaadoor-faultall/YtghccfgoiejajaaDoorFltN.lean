/- The contracts on errors that a law meets; the document's example. -/
import Derived.Test.YtghccfgoiejajaaDoorFltM
namespace Go.Proofs.YtghccfgoiejajaaDoor
open Go Go.RowKit

section
variable {w : World} {es : List Addr} {v : Value} {k : Nat} {F : Option Nat} {t : List UInt8}

theorem Er.kind (h : Er w es v k F t) (ha : All w es) : Calls Tryd.prog 18 #[v] w fun e w' => e = .returned (.int .i64 (kindOf k : Nat)) ∧ Below w.heap.size w w' := by
  obtain ⟨L, h1, h2⟩ := h.ch
  exact fkind_chain w es ha.errs L v F k h1 h2

theorem Er.fis (h : Er w es v k F t) (ha : All w es) (j : Nat) (h1 : 1 ≤ j) (h2 : j ≤ 16) : Calls Tryd.prog 19 #[v, erv es j] w fun e w' => e = .returned (.bool (decide (k = j))) ∧ Below w.heap.size w w' := by
  obtain ⟨L, h3, h4⟩ := h.ch
  exact fIs_kind w es ha.errs L v F k j h3 h4 h1 h2

theorem Er.eis (h : Er w es v k F t) (ha : All w es) (j : Nat) (h1 : 1 ≤ j) (h2 : j ≤ 16) : Calls Tryd.prog 20 #[v, erv es j] w fun e w' => e = .returned (.bool (decide (k = j))) ∧ w' = w := by
  obtain ⟨L, h3, h4⟩ := h.ch
  exact Is_kind w es ha.errs L v F k j h3 h4 h1 h2

theorem kindOf_le (h : Er w es v k F t) : kindOf k ≤ 17 := by
  obtain ⟨L, _, h4⟩ := h.ch
  unfold kindOf
  rcases h4 with ⟨h, _⟩ | ⟨_, h, _⟩ | ⟨h, _⟩ <;> split <;> omega

theorem Er.code (h : Er w es v k F t) (ha : All w es) : Calls Tryd.prog 16 #[v] w fun e w' => e = .returned (.int .i64 (codeOf (kindOf k))) ∧ Below w.heap.size w w' :=
  fcode_of w v _ (kindOf_le h) (h.kind ha)

theorem code_nil (w : World) : Calls Tryd.prog 16 #[.nilIface] w fun e w' => e = .returned (.int .i64 10) ∧ Below w.heap.size w w' :=
  fcode_of w .nilIface 0 (by decide) (fkind_nil w)

theorem Er.of {b : Nat} (h : Er w es v k (some b) t) (ha : All w es) {o c : Int} {s : ByteArray} {y : Value} (hf : Fa w b o c s y) (hy : y = .nilIface ∨ ∃ t q, y = .iface t q) :
    Calls Tryd.prog 14 #[v] w fun e w' => e = .returned (ofRet o c s y true) ∧ Below w.heap.size w w' := by
  obtain ⟨L, h3, h4⟩ := h.ch
  exact of_some w es L v b h3 ha o c s y hy hf

theorem Er.ofNone (h : Er w es v k none t) (ha : All w es) : Calls Tryd.prog 14 #[v] w fun e w' => e = .returned (ofRet 0 0 ⟨#[]⟩ .nilIface false) ∧ Below w.heap.size w w' := by
  obtain ⟨L, h3, h4⟩ := h.ch
  exact of_none w es L v h3 ha
end

theorem erv_role {w : World} {es : List Addr} (h : All w es) : w.cell? ⟨1, 0, none⟩ = some (erv es 10) := by
  obtain ⟨x, hx, hj, _⟩ := erv_at h.errs (j := 10) (by decide) (by decide)
  rw [hx]
  exact (h.errs.each 9 _ x rfl hj).1

theorem erv_iface (es : List Addr) {k : Nat} (h : 1 ≤ k) : ∃ t q, erv es k = .iface t q := by
  obtain ⟨i, rfl⟩ : ∃ i, k = i + 1 := ⟨k - 1, by omega⟩
  exact ⟨_, _, rfl⟩

theorem role10 : wordsOf 10 = ⟨#[114, 111, 108, 101]⟩ := rfl

set_option maxRecDepth 100000 in
set_option maxHeartbeats 2000000 in
theorem awake_true (w : World) (es : List Addr) (h : All w es) : Calls Tryd.prog 8 #[] w fun e w' => e = .returned (.bool true) ∧ Below w.heap.size w w' := by
  have HA : Hid (All w es) := h
  have c1 := erv_role h
  clear h
  go_enter Tryd.func8, Tryd.ntmps8
  go_wp2_with fail
  refine (fNew w es HA.out 3 6 10 (by decide) (by decide)).mono ?_
  rintro e w1 ⟨b, rfl, hE, hF, hb⟩
  have HE : Hid (Er w1 es (eF b) 10 (some b) (wordsOf 10).data.toList) := hE
  have HF : Hid (Fa w1 b 3 6 (wordsOf 10) (erv es 10)) := hF
  have HB : Hid (Below w.heap.size w w1) := hb
  clear hE hF hb
  go_wp2_with fail
  refine (fWrap w1 es (eF b) 10 (some b) _ _ HE.out).mono ?_
  rintro e w2 ⟨b2, rfl, hE, hb⟩
  have HE2 : Hid (∃ t, Er w2 es (eW b2) 10 (some b) t) := ⟨_, hE⟩
  have HF2 : Hid (Fa w2 b 3 6 (wordsOf 10) (erv es 10)) := HF.out.stays hb
  have HB2 : Hid (Below w.heap.size w w2) := HB.out.trans (hb.mono HB.out.size)
  clear hE hb HE HF HB
  obtain ⟨T, q, hy⟩ := erv_iface es (k := 10) (by decide)
  go_wp2_with fail
  obtain ⟨t, hE⟩ := HE2.out
  refine (hE.of (HA.out.below HB2.out) HF2.out (.inr ⟨T, q, hy⟩)).mono ?_
  rintro e w3 ⟨rfl, hb⟩
  have HB3 : Hid (Below w.heap.size w w3) := HB2.out.trans (hb.mono HB2.out.size)
  clear hE hb HE2 HF2 HB2
  rw [role10, hy, ofRet]
  rw [hy] at c1
  go_wp2_with fail
  refine (fkind_nil _).mono ?_
  rintro e w4 ⟨rfl, hb⟩
  have HB4 : Hid (Below w.heap.size w w4) := (HB3.out.alloc HB3.out.size _).trans (hb.mono (by have := HB3.out.size; simp; omega))
  clear hb
  have c4 := erv_role (HA.out.below HB4.out)
  rw [hy] at c4
  go_wp2_with fail
  have hE := (Er.listed (HA.out.below HB4.out) (k := 10) (by decide) (by decide)).kind (HA.out.below HB4.out)
  rw [hy] at hE
  refine hE.mono ?_
  rintro e w5 ⟨rfl, hb⟩
  have HB5 : Hid (Below w.heap.size w w5) := HB4.out.trans (hb.mono HB4.out.size)
  clear hb hE
  simp only [kindOf]
  go_wp2
  go_ret
  exact ⟨rfl, HB5.out⟩
end Go.Proofs.YtghccfgoiejajaaDoor
