/- Wrap and New. -/
import Derived.Test.YtghccfgoiejajaaDoorFltL
namespace Go.Proofs.YtghccfgoiejajaaDoor
open Go Go.RowKit

set_option maxRecDepth 100000 in
theorem wrap_nil (w : World) (s : ByteArray) : Calls Tryd.prog 13 #[.nilIface, .string s] w fun e w' => e = .returned .nilIface ∧ w' = w := by
  go_enter Tryd.func13, Tryd.ntmps13
  go_wp2
  go_ret
  exact ⟨rfl, rfl⟩

/-- Wrap's new error. -/
abbrev wW (w : World) (s : ByteArray) (v : Value) : World := w.alloc (.cells #[.string s, v] 50)
theorem wW_below (w : World) (s : ByteArray) (v : Value) : Below w.heap.size w (wW w s v) := (Below.refl _ _).alloc (Nat.le_refl _) _

set_option maxRecDepth 100000 in
theorem wrap_of (w : World) (t : TypeId) (q : Value) (s : ByteArray) : Calls Tryd.prog 13 #[.iface t q, .string s] w fun e w' => e = .returned (eW w.heap.size) ∧ w' = wW w s (.iface t q) := by
  go_enter Tryd.func13, Tryd.ntmps13
  go_wp2
  go_ret
  exact ⟨rfl, rfl⟩

/-- An error: its chain's last one is the k-th; its first fault; its words; it lies in w. -/
structure Er (w : World) (es : List Addr) (v : Value) (k : Nat) (F : Option Nat) (t : List UInt8) : Prop where
  ch : ∃ L, Ch w L v F ∧ Leaf w es L k
  tx : Tx w v t
  lies : rank v ≤ w.heap.size

theorem Er.stays {w w' : World} {es : List Addr} {v : Value} {k : Nat} {F : Option Nat} {t : List UInt8} (h : Er w es v k F t) (hb : Below w.heap.size w w') : Er w' es v k F t := by
  obtain ⟨L, h1, h2⟩ := h.ch
  exact ⟨⟨L, h1.stays hb, h2.stays hb⟩, h.tx.stays hb, Nat.le_trans h.lies hb.size⟩

/-- A listed error. -/
theorem Er.listed {w : World} {es : List Addr} (h : All w es) {k : Nat} (h1 : 1 ≤ k) (h2 : k ≤ 16) : Er w es (erv es k) k none (wordsOf k).data.toList := by
  obtain ⟨x, hx, hj, c, t, hb⟩ := erv_at h.errs h1 h2
  have hs := h.says
  rw [words_x] at hs
  have hw : wordsX[k - 1]? = some (wordsOf k).data.toList := by
    have hk : k = 1 ∨ k = 2 ∨ k = 3 ∨ k = 4 ∨ k = 5 ∨ k = 6 ∨ k = 7 ∨ k = 8 ∨ k = 9 ∨ k = 10 ∨ k = 11 ∨ k = 12 ∨ k = 13 ∨ k = 14 ∨ k = 15 ∨ k = 16 := by omega
    rcases hk with rfl | rfl | rfl | rfl | rfl | rfl | rfl | rfl | rfl | rfl | rfl | rfl | rfl | rfl | rfl | rfl
    all_goals rfl
  have hc := hs (k - 1) x _ hj hw
  rw [hx]
  refine ⟨⟨eS x, .leaf x rfl, .inr (.inl ⟨h1, h2, hx.symm⟩)⟩, ?_, ?_⟩
  · exact .leaf x (wordsOf k) hc
  · exact World.block_lt_of_cell? w _ hc

/-- What Wrap makes. -/
theorem Er.wrapped {w : World} {es : List Addr} {v : Value} {k : Nat} {F : Option Nat} {t : List UInt8} (h : Er w es v k F t) (s : ByteArray) : Er (wW w s v) es (eW w.heap.size) k F (s.data.toList ++ [58, 32] ++ t) := by
  have hb := wW_below w s v
  obtain ⟨L, h1, h2⟩ := h.ch
  have hr : rank v < w.heap.size + 1 := Nat.lt_succ_of_le h.lies
  refine ⟨⟨L, .wrap _ s v F (heap_new _ _) hr (h1.stays hb), h2.stays hb⟩, .wrap _ s v t (heap_new _ _) hr (h.tx.stays hb), ?_⟩
  show w.heap.size + 1 ≤ (w.alloc _).heap.size
  simp

/-- Wrap, of an error. -/
theorem fWrap (w : World) (es : List Addr) (v : Value) (k : Nat) (F : Option Nat) (t : List UInt8) (s : ByteArray) (h : Er w es v k F t) :
    Calls Tryd.prog 13 #[v, .string s] w fun e w' => ∃ b, e = .returned (eW b) ∧ Er w' es (eW b) k F (s.data.toList ++ [58, 32] ++ t) ∧ Below w.heap.size w w' := by
  obtain ⟨L, h1, _⟩ := h.ch
  obtain ⟨ty, q, rfl⟩ := h1.iface
  refine (wrap_of w ty q s).mono ?_
  rintro e w' ⟨rfl, rfl⟩
  exact ⟨_, rfl, h.wrapped s, wW_below w s _⟩

/-- New's fault, ahead of its words. -/
abbrev wF (w : World) (o c : Int) (v : Value) : World := w.alloc (.cells #[.int .i64 o, .int .i64 c, .string ⟨#[]⟩, v] 31)
theorem wF_below (w : World) (o c : Int) (v : Value) : Below w.heap.size w (wF w o c v) := (Below.refl _ _).alloc (Nat.le_refl _) _

/-- A fault as it lies. -/
def Fa (w : World) (b : Nat) (o c : Int) (s : ByteArray) (v : Value) : Prop := w.heap[b]? = some (.cells #[.int .i64 o, .int .i64 c, .string s, v] 31 (0, 0))
theorem Fa.stays {w w' : World} {b : Nat} {o c : Int} {s : ByteArray} {v : Value} (h : Fa w b o c s v) (hb : Below w.heap.size w w') : Fa w' b o c s v := by
  show _ = _
  rw [hb.block _ (Array.getElem?_eq_some_iff.1 h).1]
  exact h

set_option maxRecDepth 100000 in
theorem new_nil (w : World) (o c : Int) : Calls Tryd.prog 11 #[.int .i64 o, .int .i64 c, .nilIface] w fun e w' => e = .returned (eF w.heap.size) ∧ w' = wF w o c .nilIface := by
  go_enter Tryd.func11, Tryd.ntmps11
  go_wp2
  go_ret
  exact ⟨rfl, rfl⟩

set_option maxRecDepth 100000 in
theorem new_leaf (w : World) (o c : Int) (q : Value) (s : ByteArray)
    (hC : Calls Tryd.prog 61 #[q] (wF w o c (.iface 68 q)) fun e w' => e = .returned (.string s) ∧ Below (wF w o c (.iface 68 q)).heap.size (wF w o c (.iface 68 q)) w') :
    Calls Tryd.prog 11 #[.int .i64 o, .int .i64 c, .iface 68 q] w fun e w' => e = .returned (eF w.heap.size) ∧ (Fa w' w.heap.size o c s (.iface 68 q) ∧ Below w.heap.size w w') := by
  have hm := mErrorE
  have HC : Hid (Calls Tryd.prog 61 #[q] (wF w o c (.iface 68 q)) fun e w' => e = .returned (.string s) ∧ (Fa w' w.heap.size o c ⟨#[]⟩ (.iface 68 q) ∧ Below w.heap.size w w')) := by
    show Calls _ _ _ _ _
    refine hC.mono ?_
    rintro e w' ⟨h1, h2⟩
    exact ⟨h1, Fa.stays (heap_new _ _) h2, (wF_below w o c _).trans (h2.mono (wF_below w o c _).size)⟩
  clear hC
  go_enter Tryd.func11, Tryd.ntmps11
  go_wp2_with fail
  refine HC.out.mono ?_
  rintro e w1 ⟨rfl, hf, hb⟩
  have c2 : w1.cell? ⟨w.heap.size, 2, none⟩ = some (.string ⟨#[]⟩) := by rw [World.cell?, show w1.heap[w.heap.size]? = _ from hf]; rfl
  have f2 : w1.frozen? ⟨w.heap.size, 2, none⟩ = false := Lib.frozen_of_heap hf 2
  have HF : Hid (Fa w1 w.heap.size o c ⟨#[]⟩ (.iface 68 q)) := hf
  have HB : Hid (Below w.heap.size w w1) := hb
  clear hf hb
  go_wp2
  go_ret
  refine ⟨rfl, ?_, HB.out.setCell (p := ⟨w.heap.size, 2, none⟩) (Nat.le_refl _) _⟩
  have hf := HF.out
  unfold Fa at hf ⊢
  simp [World.setCell, Array.getElem?_modify, hf]

set_option maxRecDepth 100000 in
theorem new_wrapped (w : World) (o c : Int) (q : Value) (s : ByteArray)
    (hC : Calls Tryd.prog 52 #[q] (wF w o c (.iface 48 q)) fun e w' => e = .returned (.string s) ∧ Below (wF w o c (.iface 48 q)).heap.size (wF w o c (.iface 48 q)) w') :
    Calls Tryd.prog 11 #[.int .i64 o, .int .i64 c, .iface 48 q] w fun e w' => e = .returned (eF w.heap.size) ∧ (Fa w' w.heap.size o c s (.iface 48 q) ∧ Below w.heap.size w w') := by
  have hm := mErrorW
  have HC : Hid (Calls Tryd.prog 52 #[q] (wF w o c (.iface 48 q)) fun e w' => e = .returned (.string s) ∧ (Fa w' w.heap.size o c ⟨#[]⟩ (.iface 48 q) ∧ Below w.heap.size w w')) := by
    show Calls _ _ _ _ _
    refine hC.mono ?_
    rintro e w' ⟨h1, h2⟩
    exact ⟨h1, Fa.stays (heap_new _ _) h2, (wF_below w o c _).trans (h2.mono (wF_below w o c _).size)⟩
  clear hC
  go_enter Tryd.func11, Tryd.ntmps11
  go_wp2_with fail
  refine HC.out.mono ?_
  rintro e w1 ⟨rfl, hf, hb⟩
  have c2 : w1.cell? ⟨w.heap.size, 2, none⟩ = some (.string ⟨#[]⟩) := by rw [World.cell?, show w1.heap[w.heap.size]? = _ from hf]; rfl
  have f2 : w1.frozen? ⟨w.heap.size, 2, none⟩ = false := Lib.frozen_of_heap hf 2
  have HF : Hid (Fa w1 w.heap.size o c ⟨#[]⟩ (.iface 48 q)) := hf
  have HB : Hid (Below w.heap.size w w1) := hb
  clear hf hb
  go_wp2
  go_ret
  refine ⟨rfl, ?_, HB.out.setCell (p := ⟨w.heap.size, 2, none⟩) (Nat.le_refl _) _⟩
  have hf := HF.out
  unfold Fa at hf ⊢
  simp [World.setCell, Array.getElem?_modify, hf]

/-- What New makes: a fault that says its cause's words. -/
theorem Er.fault {w : World} {es : List Addr} {v : Value} {k : Nat} {F : Option Nat} {t : List UInt8} (h : Er w es v k F t) {b : Nat} {o c : Int} {s : ByteArray} (hf : Fa w b o c s v) (hr : rank v < b + 1) : Er w es (eF b) k (some b) s.data.toList := by
  obtain ⟨L, h1, h2⟩ := h.ch
  exact ⟨⟨L, .fault b o c s v F hf hr h1, h2⟩, .fault b o c s v hf, (Array.getElem?_eq_some_iff.1 hf).1⟩

/-- New, of a listed error. -/
theorem fNew (w : World) (es : List Addr) (h : All w es) (o c : Int) (k : Nat) (h1 : 1 ≤ k) (h2 : k ≤ 16) :
    Calls Tryd.prog 11 #[.int .i64 o, .int .i64 c, erv es k] w fun e w' => ∃ b, e = .returned (eF b) ∧ Er w' es (eF b) k (some b) (wordsOf k).data.toList ∧ Fa w' b o c (wordsOf k) (erv es k) ∧ Below w.heap.size w w' := by
  obtain ⟨x, hx, _, _⟩ := erv_at h.errs h1 h2
  have hl := Er.listed h h1 h2
  rw [hx] at hl ⊢
  have hx' : w.cell? x = some (.string (wordsOf k)) := by
    generalize hv : eS x = v at hl
    generalize ht : (wordsOf k).data.toList = t at hl
    cases hl.tx with
    | leaf a s h =>
      simp only [eS, Value.iface.injEq, Value.pointer.injEq, Option.some.injEq, true_and] at hv
      subst hv
      rw [h]
      rw [show s = wordsOf k from ByteArray.ext (Array.toList_inj.1 ht.symm)]
    | fault => cases hv
    | wrap => cases hv
  refine (new_leaf w o c (.pointer (some x)) (wordsOf k) ?_).mono ?_
  · have hb := wF_below w o c (eS x)
    refine (errorE _ x (wordsOf k) (by rw [hb.cell (World.block_lt_of_cell? w _ hx')]; exact hx')).mono ?_
    rintro e w' ⟨rfl, rfl⟩
    exact ⟨rfl, Below.refl _ _⟩
  · rintro e w' ⟨rfl, hf, hb⟩
    exact ⟨_, rfl, (hl.stays hb).fault hf (Nat.lt_succ_of_le hl.lies), hf, hb⟩

/-- New, of a wrapped error. -/
theorem fNewW (w : World) (es : List Addr) (o c : Int) (b0 k : Nat) (F : Option Nat) (t : List UInt8) (h : Er w es (eW b0) k F t) (ht : t.length ≤ 100000) :
    Calls Tryd.prog 11 #[.int .i64 o, .int .i64 c, eW b0] w fun e w' => ∃ b, e = .returned (eF b) ∧ Er w' es (eF b) k (some b) t ∧ Fa w' b o c ⟨t.toArray⟩ (eW b0) ∧ Below w.heap.size w w' := by
  refine (new_wrapped w o c (.pointer (some ⟨b0, 0, none⟩)) ⟨t.toArray⟩ ?_).mono ?_
  · exact errorW _ b0 t (h.tx.stays (wF_below w o c (eW b0))) ht
  · rintro e w' ⟨rfl, hf, hb⟩
    exact ⟨_, rfl, (h.stays hb).fault hf (Nat.lt_succ_of_le h.lies), hf, hb⟩

/-- New, of none. -/
theorem fNew0 (w : World) (es : List Addr) (o c : Int) :
    Calls Tryd.prog 11 #[.int .i64 o, .int .i64 c, .nilIface] w fun e w' => ∃ b, e = .returned (eF b) ∧ Er w' es (eF b) 0 (some b) [] ∧ Fa w' b o c ⟨#[]⟩ .nilIface ∧ Below w.heap.size w w' := by
  refine (new_nil w o c).mono ?_
  rintro e w' ⟨rfl, rfl⟩
  refine ⟨_, rfl, ⟨⟨.nilIface, .none _ o c ⟨#[]⟩ (heap_new _ _) rfl, .inl ⟨rfl, rfl⟩⟩, .fault _ o c ⟨#[]⟩ .nilIface (heap_new _ _), ?_⟩, heap_new _ _, wF_below w o c _⟩
  show w.heap.size + 1 ≤ (w.alloc _).heap.size
  simp
end Go.Proofs.YtghccfgoiejajaaDoor
