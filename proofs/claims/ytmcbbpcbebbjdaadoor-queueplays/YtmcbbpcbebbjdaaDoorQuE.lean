/- The document's queue (a string): New, Put, Take; the law's Bytes. -/
import Derived.Test.YtmcbbpcbebbjdaaDoorQuD
import Derived.Test.YtmcbbpcbebbjdaaDoorLibP
import Derived.Deep.DeepCutAuto
import Derived.Deep.RegionHeldLaw
namespace Go.Proofs.YtmcbbpcbebbjdaaDoor
open Go Go.RowKit

/-- Bytes as a string. -/
def qst (l : List UInt8) : ByteArray := ⟨l.toArray⟩
theorem qst_size (l : List UInt8) : (qst l).size = l.length := by simp [qst, ByteArray.size]
theorem qst_append (a b : List UInt8) : qst a ++ qst b = qst (a ++ b) := by
  unfold qst
  apply ByteArray.ext
  simp

/-- The document's queue at block q. -/
structure Qd (w : World) (q r : Nat) (l : List UInt8) (c : Bool) : Prop where
  var : w.heap[q]? = some (.cells #[.int .i64 (r : Nat), .string (qst l), .bool c] 35 (0, 0))
  len : l.length ≤ r
  top : r ≤ 16384

section
variable {w u : World} {q r : Nat} {l : List UInt8} {c : Bool}
theorem Qd.lt (h : Qd w q r l c) : q < w.heap.size := (Array.getElem?_eq_some_iff.1 h.var).1
theorem Qd.at_ (h : Qd w q r l c) (hu : u.heap[q]? = w.heap[q]?) : Qd u q r l c := ⟨hu.trans h.var, h.len, h.top⟩
theorem Qd.on (h : Qd w q r l c) (hb : Below w.heap.size w u) : Qd u q r l c := h.at_ (hb.block q h.lt)
theorem Qd.cell0 (h : Qd w q r l c) : w.cell? ⟨q, 0, none⟩ = some (.int .i64 (r : Nat)) := (Lib.cell_of_heap h.var 0).trans rfl
theorem Qd.cell1 (h : Qd w q r l c) : w.cell? ⟨q, 1, none⟩ = some (.string (qst l)) := (Lib.cell_of_heap h.var 1).trans rfl
theorem Qd.cell2 (h : Qd w q r l c) : w.cell? ⟨q, 2, none⟩ = some (.bool c) := (Lib.cell_of_heap h.var 2).trans rfl
theorem Qd.shut (h : Qd w q r l c) : Qd (w.setCell ⟨q, 2, none⟩ (.bool true)) q r l true ∧ Kp [q] w (w.setCell ⟨q, 2, none⟩ (.bool true)) :=
  ⟨⟨(heap_setCell_same _ _ _ _ _ _ h.var).trans rfl, h.len, h.top⟩, (Kp.refl [q] w).set ⟨q, 2, none⟩ (by simp) _⟩
theorem Qd.text (h : Qd w q r l c) {l' : List UInt8} (hl : l'.length ≤ r) : Qd (w.setCell ⟨q, 1, none⟩ (.string (qst l'))) q r l' c ∧ Kp [q] w (w.setCell ⟨q, 1, none⟩ (.string (qst l'))) :=
  ⟨⟨(heap_setCell_same _ _ _ _ _ _ h.var).trans rfl, hl, h.top⟩, (Kp.refl [q] w).set ⟨q, 1, none⟩ (by simp) _⟩
end

theorem qst_cut (l : List UInt8) (i k : Nat) : (qst l).extract i k = qst ((l.take k).drop i) := by
  apply ByteArray.ext
  rw [ByteArray.data_extract, qst, qst, List.extract_toArray, List.extract_eq_drop_take']

theorem qmm2 (most : Int) : min (max most 0) 16384 = ((qroom most : Nat) : Int) := by unfold qroom; omega
theorem qtk_eq2 (l : List UInt8) (n : Int) : min (max n 0) ((l.length : Nat) : Int) = ((qtk l n : Nat) : Int) := by unfold qtk; omega

set_option maxRecDepth 100000 in
theorem qdnew_any (w : World) (most : Int) : Calls Tryd.prog 7 #[.int .i64 most] w fun e w' => e = .returned (.pointer (some ⟨w.heap.size, 0, none⟩)) ∧ w' = w.alloc (.cells #[.int .i64 (qroom most : Nat), .string (qst []), .bool false] 35) := by
  have h1 := max2_run (P := Tryd.prog) #[3, 3] 3 most 0
  have h2 := min2_run (P := Tryd.prog) #[3, 3] 3 (max most 0) 16384
  rw [qmm2] at h2
  go_enter Tryd.func7, Tryd.ntmps7
  go_wp2
  go_ret
  exact ⟨rfl, rfl⟩

set_option maxRecDepth 100000 in
theorem qdtake_any {q r : Nat} {w : World} {l : List UInt8} {c : Bool} (h : Qd w q r l c) (n : Int) :
    Calls Tryd.prog 11 #[.pointer (some ⟨q, 0, none⟩), .int .i64 n] w fun e w' => e = .returned (.string (qst (l.take (qtk l n)))) ∧ Qd w' q r (l.drop (qtk l n)) c ∧ Kp [q] w w' := by
  have h1 := max2_run (P := Tryd.prog) #[3, 3] 3 n 0
  have h2 := min2_run (P := Tryd.prog) #[3, 3] 3 (max n 0) (l.length : Nat)
  rw [qtk_eq2] at h2
  have hk := qtk_le l n
  have hlen := h.len
  have htop := h.top
  have hs := qst_size l
  have c1 := h.cell1
  have hfr : ∀ j, w.frozen? ⟨q, j, none⟩ = false := Lib.frozen_of_heap h.var
  have hlt := h.lt
  have HF := hid (h.text (l' := l.drop (qtk l n)) (by rw [List.length_drop]; omega))
  generalize qtk l n = k at *
  clear h
  go_enter Tryd.func11, Tryd.ntmps11
  go_wp2
  go_ret
  rw [qst_cut, qst_cut, List.drop_zero, List.take_length]
  exact ⟨rfl, HF.out⟩

set_option maxRecDepth 100000 in
theorem qdput_gone {q r : Nat} {w : World} {l : List UInt8} (h : Qd w q r l true) (a : Option Addr) (n c' : Nat) (b : List UInt8) :
    Calls Tryd.prog 16 #[.pointer (some ⟨q, 0, none⟩), .slice a n c'] w fun e w' => e = .returned (.int .i64 (putK r l true b : Nat)) ∧ Qd w' q r (putL r l true b) (putC r l true b) ∧ Kp [q] w w' := by
  have c1 := h.cell2
  have H : Hid (Qd w q r (putL r l true b) (putC r l true b)) := h
  clear h
  go_enter Tryd.func16, Tryd.ntmps16
  go_wp2
  go_ret
  exact ⟨rfl, H.out, Kp.refl _ _⟩

set_option maxRecDepth 100000 in
theorem qdput_full {q r : Nat} {w : World} {l : List UInt8} (h : Qd w q r l false) (a : Option Addr) (n c' : Nat) (b : List UInt8) (hr : Rd w a n c' b) (hf : r - l.length < b.length) :
    Calls Tryd.prog 16 #[.pointer (some ⟨q, 0, none⟩), .slice a n c'] w fun e w' => e = .returned (.int .i64 (putK r l false b : Nat)) ∧ Qd w' q r (putL r l false b) (putC r l false b) ∧ Kp [q] w w' := by
  have c0 := h.cell0
  have c1 := h.cell1
  have c2 := h.cell2
  have hfr : ∀ j, w.frozen? ⟨q, j, none⟩ = false := Lib.frozen_of_heap h.var
  have hlt := h.lt
  have hlen := hr.len
  have hle := h.len
  have htop := h.top
  have hmax := hr.max
  have hle2 := hr.le
  simp only [maxLen] at hmax
  have hs := qst_size l
  have HP : Hid (putK r l false b = 14 ∧ putL r l false b = l ∧ putC r l false b = true) := by
    refine ⟨?_, ?_, ?_⟩
    · rw [putK, if_neg (by decide), if_pos hf]
    · rw [putL, if_pos (.inr hf)]
    · rw [putC, decide_eq_true hf]; rfl
  have HC : Hid (∀ m, Qd ((w.drewN m).setCell ⟨q, 2, none⟩ (.bool true)) q r l true ∧ Kp [q] w ((w.drewN m).setCell ⟨q, 2, none⟩ (.bool true))) := fun m => by
    have hb : Below w.heap.size w (w.drewN m) := below_drewN (Below.refl _ _) m
    exact ⟨(h.on hb).shut.1, (kp_of_below hb _).set ⟨q, 2, none⟩ (by simp) _⟩
  have hgt : ((r : Int) - (l.length : Nat) < (n : Int)) := by omega
  have e1 : decide ((r : Int) - (l.length : Nat) < (n : Int)) = true := decide_eq_true hgt
  rw [HP.out.1, HP.out.2.1, HP.out.2.2]
  clear h hr hf HP
  go_enter Tryd.func16, Tryd.ntmps16
  go_wp2
  go_quiet (fail)
  go_wp2
  go_ret
  exact ⟨rfl, HC.out _⟩

/-- While something is put: the queue's cells but the text, and what is put. -/
def QdS (q r : Nat) (a : Option Addr) (n c' : Nat) (b : List UInt8) (x : World) : Prop :=
  (∃ y, x.heap[q]? = some (.cells #[.int .i64 (r : Nat), y, .bool false] 35 (0, 0))) ∧ Rd x a n c' b

theorem Rd.apart {w w' : World} {q : Nat} {a : Option Addr} {n c : Nat} {l : List UInt8} (h : Rd w a n c l) (hk : Kp [q] w w') (ha : ∀ x, a = some x → 0 < l.length → x.block ≠ q) : Rd w' a n c l :=
  ⟨h.len, h.le, h.max, h.hnil, fun x hx j u hu => by
    have hj : j < l.length := by
      rcases Nat.lt_or_ge j l.length with h' | h'
      · exact h'
      · rw [List.getElem?_eq_none (by rw [bc_length]; exact h')] at hu; cases hu
    refine hk.cell (h.cells x hx j u hu) ?_
    have := ha x hx (by omega)
    simp only [List.mem_cons, List.not_mem_nil, or_false]
    unfold Addr.add
    split <;> simpa using this⟩

set_option maxRecDepth 100000 in
theorem qdput_ok {q r : Nat} {w : World} {l : List UInt8} (h : Qd w q r l false) (a : Option Addr) (n c' : Nat) (b : List UInt8) (hr : Rd w a n c' b) (hq : ∀ x, a = some x → 0 < b.length → x.block ≠ q) (hf : ¬ r - l.length < b.length) :
    Calls Tryd.prog 16 #[.pointer (some ⟨q, 0, none⟩), .slice a n c'] w fun e w' => e = .returned (.int .i64 (putK r l false b : Nat)) ∧ Qd w' q r (putL r l false b) (putC r l false b) ∧ Kp [q] w w' := by
  have c0 := h.cell0
  have c1 := h.cell1
  have c2 := h.cell2
  have hlen := hr.len
  have hle := h.len
  have htop := h.top
  have hs := qst_size l
  have hs2 : (qst b).size = n := by rw [qst_size]; exact hlen
  have HP : Hid (putK r l false b = 0 ∧ putL r l false b = l ++ b ∧ putC r l false b = false) := by
    refine ⟨?_, ?_, ?_⟩
    · rw [putK, if_neg (by decide), if_neg hf]
    · rw [putL, if_neg (by simp only [Bool.false_eq_true, false_or]; exact hf)]
    · rw [putC, decide_eq_false hf]; rfl
  have hgt : ¬ ((r : Int) - (l.length : Nat) < (n : Int)) := by omega
  have e1 : decide ((r : Int) - (l.length : Nat) < (n : Int)) = false := decide_eq_false hgt
  have HF : Hid (∀ W, Below w.heap.size w W → QdS q r a n c' b W ∧ W.cell? ⟨q, 1, none⟩ = some (.string (qst l)) ∧ (∀ j, W.frozen? ⟨q, j, none⟩ = false) ∧ q < W.heap.size ∧ QdS q r a n c' b (W.setCell ⟨q, 1, none⟩ (.string (qst l ++ qst b))) ∧ Qd (W.setCell ⟨q, 1, none⟩ (.string (qst l ++ qst b))) q r (l ++ b) false ∧ Kp [q] w (W.setCell ⟨q, 1, none⟩ (.string (qst l ++ qst b)))) := fun W hb => by
    have hW := h.on hb
    have hrW : Rd W a n c' b := hr.below hb (fun x hx hl => by
      obtain ⟨bl, off, e, hbl, _⟩ := hr.plain (by omega)
      rw [hx] at e
      cases e
      exact hbl)
    have ht := hW.text (l' := l ++ b) (by rw [List.length_append]; omega)
    rw [qst_append]
    exact ⟨⟨⟨_, hW.var⟩, hrW⟩, hW.cell1, Lib.frozen_of_heap hW.var, hW.lt, ⟨⟨_, ht.1.var⟩, hrW.apart ht.2 hq⟩, ht.1, (kp_of_below hb _).trans ht.2 (fun _ h _ => h)⟩
  have hsm : ¬ 9223372036854775807 < l.length + n := by omega
  rw [HP.out.1, HP.out.2.1, HP.out.2.2]
  clear h hr hf HP hq
  go_enter Tryd.func16, Tryd.ntmps16
  go_wp2
  go_quiet (fail)
  go_upto_region 6 with fail
  have hbW : Below w.heap.size w (w.drewN nq) := below_drewN (Below.refl _ w) nq
  generalize w.drewN nq = W at hbW ⊢
  obtain ⟨hHeld, p1, pf, pl, h5, h6⟩ := HF.out W.drew hbW.drew
  clear HF c0 c1 c2
  have hHeld := hHeld
  refine wp_region_held_drew (S := QdS q r a n c' b) (by kernel_rfl) hHeld (fun _ => ?_)
  refine wpAnyH_take (i := 0) (v := ?_) rfl (by kernel_rfl) (by kernel_rfl) (by kernel_rfl) (fun _ _ _ h => h) (Or.inl ⟨by kernel_rfl, ?hy0⟩) (by assumption) ?_
  case hy0 => (intro w hSw; (try dsimp only at hSw); obtain ⟨⟨y, hy⟩, hR⟩ := hSw; have t1 := hR.conv (P := Tryd.prog) 27 9 5 Tryd.underlying27 Tryd.underlying5 Tryd.underlying9; change (convert _ _ _).run _ _ = .ok (.string (qst b)) _ at t1; go_simp; try with_reducible rfl)
  try simp only [Act.put, List.getElem_toArray, List.getElem_cons_zero, List.setIfInBounds_toArray, List.set_cons_zero, List.set_cons_succ]
  refine wpAnyH_take (i := 1) (v := ?_) rfl (by kernel_rfl) (by kernel_rfl) (by kernel_rfl) (fun _ _ _ h => h) (Or.inl ⟨by kernel_rfl, ?hy1⟩) (by assumption) ?_
  case hy1 => (intro w hSw; (try dsimp only at hSw); obtain ⟨⟨y, hy⟩, hR⟩ := hSw; have t1 := hR.conv (P := Tryd.prog) 27 9 5 Tryd.underlying27 Tryd.underlying5 Tryd.underlying9; change (convert _ _ _).run _ _ = .ok (.string (qst b)) _ at t1; go_simp; try with_reducible rfl)
  try simp only [Act.put, List.getElem_toArray, List.getElem_cons_zero, List.getElem_cons_succ, List.setIfInBounds_toArray, List.set_cons_zero, List.set_cons_succ]
  refine wpAnyH_take (i := 2) (v := ?_) rfl (by kernel_rfl) (by kernel_rfl) (by kernel_rfl) (fun _ _ _ h => h) (Or.inl ⟨by kernel_rfl, ?hy2⟩) (by assumption) ?_
  case hy2 => (intro w hSw; (try dsimp only at hSw); obtain ⟨⟨y, hy⟩, hR⟩ := hSw; have t1 := hR.conv (P := Tryd.prog) 27 9 5 Tryd.underlying27 Tryd.underlying5 Tryd.underlying9; change (convert _ _ _).run _ _ = .ok (.string (qst b)) _ at t1; go_simp; try with_reducible rfl)
  try simp only [Act.put, List.getElem_toArray, List.getElem_cons_zero, List.getElem_cons_succ, List.setIfInBounds_toArray, List.set_cons_zero, List.set_cons_succ]
  refine wpAnyH_take (i := 3) (v := ?_) rfl (by kernel_rfl) (by kernel_rfl) (by kernel_rfl) (fun _ _ _ h => h) (Or.inl ⟨by kernel_rfl, ?hy3⟩) (by assumption) ?_
  case hy3 => (intro w hSw; (try dsimp only at hSw); obtain ⟨⟨y, hy⟩, hR⟩ := hSw; have t1 := hR.conv (P := Tryd.prog) 27 9 5 Tryd.underlying27 Tryd.underlying5 Tryd.underlying9; change (convert _ _ _).run _ _ = .ok (.string (qst b)) _ at t1; go_simp; try with_reducible rfl)
  try simp only [Act.put, List.getElem_toArray, List.getElem_cons_zero, List.getElem_cons_succ, List.setIfInBounds_toArray, List.set_cons_zero, List.set_cons_succ]
  refine wpAnyH_take (i := 5) (v := ?_) rfl (by kernel_rfl) (by kernel_rfl) (by kernel_rfl) (fun _ _ _ h => h) (Or.inl ⟨by kernel_rfl, ?hy5⟩) (by assumption) ?_
  case hy5 => (intro w hSw; (try dsimp only at hSw); obtain ⟨⟨y, hy⟩, hR⟩ := hSw; have t1 := hR.conv (P := Tryd.prog) 27 9 5 Tryd.underlying27 Tryd.underlying5 Tryd.underlying9; change (convert _ _ _).run _ _ = .ok (.string (qst b)) _ at t1; go_simp; try with_reducible rfl)
  try simp only [Act.put, List.getElem_toArray, List.getElem_cons_zero, List.getElem_cons_succ, List.setIfInBounds_toArray, List.set_cons_zero, List.set_cons_succ]
  refine wpAnyH_take (i := 6) (v := ?_) rfl (by kernel_rfl) (by kernel_rfl) (by kernel_rfl) (fun _ _ _ h => h) (Or.inl ⟨by kernel_rfl, ?hy6⟩) (by assumption) ?_
  case hy6 => (intro w hSw; (try dsimp only at hSw); obtain ⟨⟨y, hy⟩, hR⟩ := hSw; have t1 := hR.conv (P := Tryd.prog) 27 9 5 Tryd.underlying27 Tryd.underlying5 Tryd.underlying9; change (convert _ _ _).run _ _ = .ok (.string (qst b)) _ at t1; go_simp; try with_reducible rfl)
  try simp only [Act.put, List.getElem_toArray, List.getElem_cons_zero, List.getElem_cons_succ, List.setIfInBounds_toArray, List.set_cons_zero, List.set_cons_succ]
  refine wpAnyH_ready (rs := [4]) (by kernel_rfl) (by simp) ?_
  refine AllReadyH.cons rfl (fun K hK => ?_) AllReadyH.nil
  go_simp
  refine hK.out _ _ hHeld (fun _ => ?_)
  clear hK K
  refine wpAnyH_take (i := 7) (v := ?_) rfl (by kernel_rfl) (by kernel_rfl) (by kernel_rfl) (fun _ _ _ h => h) (Or.inl ⟨by kernel_rfl, ?hy7⟩) (by assumption) ?_
  case hy7 => (intro w hSw; (try dsimp only at hSw); obtain ⟨⟨y, hy⟩, hR⟩ := hSw; have t1 := hR.conv (P := Tryd.prog) 27 9 5 Tryd.underlying27 Tryd.underlying5 Tryd.underlying9; change (convert _ _ _).run _ _ = .ok (.string (qst b)) _ at t1; go_simp; try with_reducible rfl)
  try simp only [Act.put, List.getElem_toArray, List.getElem_cons_zero, List.getElem_cons_succ, List.setIfInBounds_toArray, List.set_cons_zero, List.set_cons_succ]
  refine wpAnyH_take (i := 8) (v := ?_) rfl (by kernel_rfl) (by kernel_rfl) (by kernel_rfl) (fun _ _ _ h => h) (Or.inl ⟨by kernel_rfl, ?hy8⟩) (by assumption) ?_
  case hy8 => (intro w hSw; (try dsimp only at hSw); obtain ⟨⟨y, hy⟩, hR⟩ := hSw; have t1 := hR.conv (P := Tryd.prog) 27 9 5 Tryd.underlying27 Tryd.underlying5 Tryd.underlying9; change (convert _ _ _).run _ _ = .ok (.string (qst b)) _ at t1; go_simp; try with_reducible rfl)
  try simp only [Act.put, List.getElem_toArray, List.getElem_cons_zero, List.getElem_cons_succ, List.setIfInBounds_toArray, List.set_cons_zero, List.set_cons_succ]
  refine wpAnyH_take (i := 9) (v := ?_) rfl (by kernel_rfl) (by kernel_rfl) (by kernel_rfl) (fun _ _ _ h => h) (Or.inl ⟨by kernel_rfl, ?hy9⟩) (by assumption) ?_
  case hy9 => (intro w hSw; (try dsimp only at hSw); obtain ⟨⟨y, hy⟩, hR⟩ := hSw; have t1 := hR.conv (P := Tryd.prog) 27 9 5 Tryd.underlying27 Tryd.underlying5 Tryd.underlying9; change (convert _ _ _).run _ _ = .ok (.string (qst b)) _ at t1; go_simp; try with_reducible rfl)
  try simp only [Act.put, List.getElem_toArray, List.getElem_cons_zero, List.getElem_cons_succ, List.setIfInBounds_toArray, List.set_cons_zero, List.set_cons_succ]
  refine wpAnyH_ready (rs := [10]) (by kernel_rfl) (by simp) ?_
  refine AllReadyH.cons rfl (fun K hK => ?_) AllReadyH.nil
  go_simp
  refine hK.out _ _ h5 (fun _ => ?_)
  clear hK K
  refine wpAnyH_done (by kernel_rfl) ?_ _
  go_wp2
  go_ret
  exact ⟨rfl, h6⟩

/-- Put. -/
theorem qdput_any {q r : Nat} {w : World} {l : List UInt8} {c : Bool} (h : Qd w q r l c) (a : Option Addr) (n c' : Nat) (b : List UInt8) (hr : Rd w a n c' b) (hq : ∀ x, a = some x → 0 < b.length → x.block ≠ q) :
    Calls Tryd.prog 16 #[.pointer (some ⟨q, 0, none⟩), .slice a n c'] w fun e w' => e = .returned (.int .i64 (putK r l c b : Nat)) ∧ Qd w' q r (putL r l c b) (putC r l c b) ∧ Kp [q] w w' := by
  cases c with
  | true => exact qdput_gone h a n c' b
  | false =>
    by_cases hf : r - l.length < b.length
    · exact qdput_full h a n c' b hr hf
    · exact qdput_ok h a n c' b hr hq hf

/-- Bytes: a copy. -/
theorem qbytes_any (w : World) (a : Option Addr) (n c : Nat) (b : List UInt8) (hr : Rd w a n c b) (hn : n ≤ 1000000) : Calls Tryd.prog 15 #[.slice a n c] w fun e w' => ∃ a' c', e = .returned (.slice a' n c') ∧ Rd w' a' n c' b ∧ Below w.heap.size w w' := by
  obtain ⟨i0, hi, hz0, hz1, hz2⟩ := qinfo_parts qinfoU8
  have HS := hid (hr.src (P := Tryd.prog) Tryd.underlying27)
  clear hr
  go_enter Tryd.func15, Tryd.ntmps15
  go_wp2_with (at_builtin; refine wpList_append_own_src _ rfl (.const (.slice none 0 0)) (.tmp 3) 27 27 rfl w.heap.size 5 i0 (.int .u8 0) 1 1 Tryd.underlying27 hi hz0 hz1 hz2 rfl _ 0 [] rfl (World.ownsRow_nil _ _ _ _) _ _ _ rfl HS.out (by simp only [maxLen]; omega) (fits1 (by omega)) (Nat.le_refl _) ?_; intro v1 w1 o1 g1)
  rw [Nat.zero_add, List.nil_append] at o1
  obtain ⟨a1, k1, rfl, h1, _⟩ := rd_of_owns o1
  go_wp2
  go_ret
  exact ⟨a1, k1, rfl, h1, (Below.refl _ _).grown g1 (Nat.le_refl _) (fun k hk => by cases hk)⟩
end Go.Proofs.YtmcbbpcbebbjdaaDoor
