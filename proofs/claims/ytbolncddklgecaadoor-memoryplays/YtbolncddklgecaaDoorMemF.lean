/- Memories of one's own, call by call; what the law's awake answers. -/
import Derived.Test.YtbolncddklgecaaDoorMemE
import Derived.Test.YtbolncddklgecaaDoorLibP
import Derived.Lib.SlBytesConst
namespace Go.Proofs.YtbolncddklgecaaDoor
open Go Go.RowKit

theorem E3.of {w : World} {es : List Addr} (h : Errs w gerrs es) : E3 w es := by
  have each : ∀ i g, gerrs[i]? = some g → w.cell? ⟨g, 0, none⟩ = some (erv es (i + 1)) := fun i g hg => by
    have hl : i < es.length := by
      rw [h.len]
      exact (List.getElem?_eq_some_iff.1 hg).1
    have := (h.each i g _ hg (List.getElem?_eq_getElem hl)).1
    rw [this, erv, List.getD, List.getElem?_eq_getElem hl]
    rfl
  exact ⟨each 0 _ rfl, each 7 _ rfl, each 8 _ rfl⟩

/-- From a row's list of just these three. -/
def L3 : List (String × DataW Unit × Nat) := [("tableau/api.ErrArg", Rows.laid_tableau_api_ErrArg, 0), ("tableau/api.ErrStride", Rows.laid_tableau_api_ErrStride, 7), ("tableau/api.ErrFile", Rows.laid_tableau_api_ErrFile, 8)]
theorem laid3 : ∀ x ∈ L3, Tryd.prog.globalNamed x.1 = some x.2.2 ∧ (Tryd.prog.globals[x.2.2]?).map (·.type) = some 37 ∧ ∃ t, x.2.1 = .iface "*errors.errorString" (.ptr (.agg [.lit (.string t)])) := by
  intro x hx
  simp only [L3, List.mem_cons, List.not_mem_nil, or_false] at hx
  rcases hx with rfl | rfl | rfl
  all_goals exact ⟨by kernel_rfl, by kernel_rfl, _, rfl⟩
theorem errs3 {W : World} (h : laidMetH Tryd.prog (L3.map fun x => (x.1, x.2.1)) W) : ∃ es, E3 W es := by
  rw [MakeChecks.laidMetH_plain _ _ _ (by kernel_rfl)] at h
  obtain ⟨es, hE⟩ := errs_of_laid L3 laid3 h
  have hlen := hE.len
  match es, hlen with
  | [a, b, c], _ => exact ⟨[a, a, a, a, a, a, a, b, c], (hE.each 0 _ _ rfl rfl).1, (hE.each 1 _ _ rfl rfl).1, (hE.each 2 _ _ rfl rfl).1⟩

/-- A literal's row. -/
theorem rd_lit (w : World) (l : List UInt8) (C : Array Value) (hC : C.toList = bc l) (e : TypeId) (fr : Nat × Nat) (hl : l.length ≤ maxLen) : Rd (w.alloc (.cells C e fr)) (some ⟨w.heap.size, 0, none⟩) l.length l.length l :=
  ⟨rfl, Nat.le_refl _, hl, (fun h => by cases h), fun x hx j u hu => by
    cases hx
    rw [Go.WideShapes.add_plain, Nat.zero_add, World.cell?_alloc_mark, ← Array.getElem?_toList, hC]
    exact hu⟩
theorem rd_block {w : World} {g : Nat} {l : List UInt8} {e : TypeId} (h : w.heap[g]? = some (.cells (bc l).toArray e (0, 0))) (hl : l.length ≤ maxLen) : Rd w (some ⟨g, 0, none⟩) l.length l.length l :=
  ⟨rfl, Nat.le_refl _, hl, (fun h => by cases h), fun x hx j u hu => by
    cases hx
    rw [Go.WideShapes.add_plain, Nat.zero_add, Lib.cell_of_heap h]
    simpa using hu⟩
theorem rd_low {w : World} {a : Option Addr} {n c : Nat} {l : List UInt8} (h : Rd w a n c l) : ∀ x, a = some x → 0 < l.length → x.block < w.heap.size := fun x hx hl => by
  have := h.len
  obtain ⟨b, off, he, hb, _⟩ := h.plain (by omega)
  rw [hx] at he
  cases he
  exact hb
theorem Kp.rd {X : List Nat} {w w' : World} (h : Kp X w w') {a : Option Addr} {n c : Nat} {l : List UInt8} (hr : Rd w a n c l) (hn : ∀ x, a = some x → 0 < l.length → x.block ∉ X) : Rd w' a n c l :=
  ⟨hr.len, hr.le, hr.max, hr.hnil, fun x hx j u hu => by
    have hj : j < l.length := by
      rcases Nat.lt_or_ge j l.length with h' | h'
      · exact h'
      · rw [List.getElem?_eq_none (by rw [bc_length]; exact h')] at hu; cases hu
    refine h.cell (hr.cells x hx j u hu) ?_
    have := hn x hx (by omega)
    unfold Addr.add
    split <;> simpa using this⟩

/-- The memories that a call made first, and the world since. -/
structure Ms (w x : World) (p b : Nat) (s : Int → Mo) : Prop where
  mm : Mm w.heap.size x p b s
  bel : Below w.heap.size w x

variable {w x : World} {p b : Nat} {s : Int → Mo} {es : List Addr}

theorem Ms.on (h : Ms w x p b s) {y : World} (hb : Below x.heap.size x y) : Ms w y p b s := ⟨h.mm.on hb, Below.on h.bel hb⟩
theorem Ms.kp (h : Ms w x p b s) {y : World} {s' : Int → Mo} {X : List Nat} (ht : Mm w.heap.size y p b s') (hk : Kp X x y) (hX : ∀ j ∈ X, w.heap.size ≤ j) : Ms w y p b s' :=
  ⟨ht, h.bel.trans (hk.below h.bel.size hX)⟩

theorem Ms.set (h : Ms w x p b s) (hE : E3 w es) (k n : Int) :
    Calls Tryd.prog 11 #[.pointer (some ⟨p, 0, none⟩), .int .i64 k, .int .i64 n] x fun e y => e = .returned (erv es (setE k n)) ∧ Ms w y p b (if setE k n = 0 then mupd s k (some (x.heap.size, rsz (by_ (s k)) n.toNat)) else s) ∧ Kp [b] x y := by
  refine (mset_any _ x es (hE.below h.bel) _ _ s h.mm h.bel.size k n).mono ?_
  rintro e y ⟨rfl, ht, hk⟩
  exact ⟨rfl, h.kp ht hk (fun j hj => by simp only [List.mem_cons, List.not_mem_nil, or_false] at hj; rw [hj]; exact h.mm.lob), hk⟩
theorem Ms.setok (h : Ms w x p b s) (hE : E3 w es) (k : Int) (n : Nat) (hk : 1 ≤ k ∧ k ≤ 255) (hn : n ≤ 65536) :
    Calls Tryd.prog 11 #[.pointer (some ⟨p, 0, none⟩), .int .i64 k, .int .i64 n] x fun e y => e = .returned .nilIface ∧ Ms w y p b (mupd s k (some (x.heap.size, rsz (by_ (s k)) n))) ∧ Kp [b] x y := by
  refine (h.set hE k n).mono ?_
  rintro e y ⟨rfl, ht, hk2⟩
  have e0 : setE k n = 0 := by rw [setE, if_neg (by omega)]
  rw [e0, if_pos rfl, Int.toNat_natCast] at ht
  rw [e0]
  exact ⟨rfl, ht, hk2⟩
theorem Ms.write (h : Ms w x p b s) (hE : E3 w es) (k j : Int) (hi : -9223372036854775808 ≤ k ∧ k ≤ 9223372036854775807) (hj : -9223372036854775808 ≤ j ∧ j ≤ 9223372036854775807) (a : Option Addr) (n c : Nat) (l : List UInt8) (hr : Rd x a n c l) (hn : n ≤ 65536) :
    Calls Tryd.prog 15 #[.pointer (some ⟨p, 0, none⟩), .int .i64 k, .int .i64 j, .slice a n c] x fun e y => e = .returned (erv es (wrE (s k) j n)) ∧ Ms w y p b (wrS s k j l) ∧ Kp (ob (s k)) x y := by
  refine (mwrite_any _ x es (hE.below h.bel) _ _ s h.mm k hi j hj a n c l hr hn).mono ?_
  rintro e y ⟨rfl, ht, hk⟩
  refine ⟨by rw [hr.len], h.kp ht hk (fun i hm => ?_), hk⟩
  cases hq : s k with
  | none => rw [hq] at hm; simp [ob] at hm
  | some q =>
    rw [hq] at hm
    simp only [ob, List.mem_cons, List.not_mem_nil, or_false] at hm
    rw [hm]
    exact (h.mm.row k q hq).1
theorem inn_nat {N j n : Nat} (h : j + n ≤ N) : inn N j n = true := by
  simp only [inn, Bool.and_eq_true, decide_eq_true_eq]
  omega
theorem Ms.writeok (h : Ms w x p b s) (hE : E3 w es) (k : Int) (j : Nat) (hi : 1 ≤ k ∧ k ≤ 255) (a : Option Addr) (n c : Nat) (l : List UInt8) (hr : Rd x a n c l) (g : Nat) (L : List UInt8) (hq : s k = some (g, L)) (hl : j + n ≤ L.length) :
    Calls Tryd.prog 15 #[.pointer (some ⟨p, 0, none⟩), .int .i64 k, .int .i64 j, .slice a n c] x fun e y => e = .returned .nilIface ∧ Ms w y p b (mupd s k (some (g, wro L j l))) ∧ Kp [g] x y := by
  have hL := (h.mm.row k _ hq).2.2.2.2
  simp only at hL
  refine (h.write hE k j (by omega) (by omega) a n c l hr (by omega)).mono ?_
  rintro e y ⟨rfl, ht, hk⟩
  rw [hq] at hk ⊢
  rw [wrS, hq] at ht
  simp only [hr.len, inn_nat hl, if_true, Int.toNat_natCast] at ht
  exact ⟨by rw [wrE]; simp only [inn_nat hl, if_true]; rfl, ht, hk⟩
theorem Ms.size (h : Ms w x p b s) (k : Int) (hi : -9223372036854775808 ≤ k ∧ k ≤ 9223372036854775807) :
    Calls Tryd.prog 18 #[.pointer (some ⟨p, 0, none⟩), .int .i64 k] x fun e y => e = .returned (.int .i64 (szI (s k))) ∧ y = x := msize_any _ x p b s h.mm k hi
theorem Ms.word (h : Ms w x p b s) (k j : Int) (hi : -9223372036854775808 ≤ k ∧ k ≤ 9223372036854775807) (hj : -9223372036854775808 ≤ j ∧ j ≤ 9223372036854775807) :
    Calls Tryd.prog 20 #[.pointer (some ⟨p, 0, none⟩), .int .i64 k, .int .i64 j] x fun e y => e = .returned (.int .u32 (wd (by_ (s k)) j : Nat)) ∧ y = x := mword_any _ x p b s h.mm k hi j hj
theorem Ms.read (h : Ms w x p b s) (k j n : Int) (hi : -9223372036854775808 ≤ k ∧ k ≤ 9223372036854775807) (hj : -9223372036854775808 ≤ j ∧ j ≤ 9223372036854775807) (hn : -9223372036854775808 ≤ n ∧ n ≤ 9223372036854775807) :
    Calls Tryd.prog 13 #[.pointer (some ⟨p, 0, none⟩), .int .i64 k, .int .i64 j, .int .i64 n] x fun e y => ReadIs x (s k) j n e y ∧ Ms w y p b s := by
  refine (mread_any _ x p b s h.mm k hi j n hj hn).mono ?_
  intro e y hr
  have hr' := hr
  obtain ⟨v, _, hb, _⟩ := hr'
  exact ⟨hr, h.on hb⟩
theorem Ms.readok (h : Ms w x p b s) (k : Int) (j n : Nat) (hi : 1 ≤ k ∧ k ≤ 255) (g : Nat) (L : List UInt8) (hq : s k = some (g, L)) (hl : j + n ≤ L.length) :
    Calls Tryd.prog 13 #[.pointer (some ⟨p, 0, none⟩), .int .i64 k, .int .i64 j, .int .i64 n] x fun e y => e = .returned (.tuple #[.slice (some ⟨x.heap.size, 0, none⟩) n n, .bool true]) ∧ Ms w y p b s ∧ Below x.heap.size x y ∧ y.heap[x.heap.size]? = some (.cells (bc ((L.drop j).take n)).toArray 5 (0, 0)) := by
  have hL := (h.mm.row k _ hq).2.2.2.2
  simp only at hL
  refine (h.read k j n (by omega) (by omega) (by omega)).mono ?_
  rintro e y ⟨⟨v, rfl, hb, _, h2⟩, hM⟩
  have e1 : rdOk (s k) j n = true := by rw [hq]; exact inn_nat hl
  obtain ⟨rfl, h3⟩ := h2 e1
  rw [e1, Int.toNat_natCast]
  rw [hq, Int.toNat_natCast, Int.toNat_natCast] at h3
  exact ⟨rfl, hM, hb, h3⟩

theorem msnew (w : World) : Calls Tryd.prog 7 #[] w fun e y => e = .returned (.pointer (some ⟨w.heap.size + 1, 0, none⟩)) ∧ Ms w y (w.heap.size + 1) w.heap.size (fun _ => none) := by
  refine (mnew_any w).mono ?_
  rintro e y ⟨rfl, hb, hM⟩
  exact ⟨rfl, hM _ (Nat.le_refl _), hb⟩
/-- Made later than something else. -/
theorem msnew_at {w0 w : World} (hw : Below w0.heap.size w0 w) : Calls Tryd.prog 7 #[] w fun e y => e = .returned (.pointer (some ⟨w.heap.size + 1, 0, none⟩)) ∧ Ms w0 y (w.heap.size + 1) w.heap.size (fun _ => none) ∧ Below w.heap.size w y := by
  refine (mnew_any w).mono ?_
  rintro e y ⟨rfl, hb, hM⟩
  exact ⟨rfl, ⟨hM _ hw.size, Below.on hw hb⟩, hb⟩

set_option maxRecDepth 100000 in
theorem mawake_any (w : World) (es : List Addr) (hE : E3 w es) : Calls Tryd.prog 8 #[] w fun e w' => e = .returned (.bool true) ∧ Below w.heap.size w w' := by
  have HE := hid hE
  have kc := fun (w : World) (C : Array Value) (n c : Nat) => Lib.run_convert_bytes_const (P := Tryd.prog) w 26 5 C n c Tryd.underlying26 Tryd.underlying5
  clear hE
  go_enter Tryd.func8, Tryd.ntmps8
  go_wp2_with fail
  refine (msnew w).mono ?_
  rintro e w1 ⟨rfl, hM⟩
  have HM := hid hM
  clear hM
  go_wp2_with fail
  refine (HM.out.setok HE.out 1 4 (by decide) (by decide)).mono ?_
  rintro e w2 ⟨rfl, hM, _⟩
  have HM2 := hid hM
  clear hM HM
  have HL := hid (rd_lit w2 [97, 98] #[.int .u8 97, .int .u8 98] rfl 5 (2, 3) (by decide))
  have HM3 := hid (HM2.out.on ((Below.refl _ w2).alloc (Nat.le_refl _) (.cells #[.int .u8 97, .int .u8 98] 5 (2, 3))))
  go_wp2_with fail
  refine (HM3.out.writeok HE.out 1 2 (by decide) _ 2 2 _ HL.out _ _ (mupd_same _ _ _) (by decide)).mono ?_
  rintro e w3 ⟨rfl, hM, _⟩
  have HM4 := hid hM
  clear hM HM3 HL HM2
  go_wp2_with fail
  refine (HM4.out.word 1 0 (by decide) (by decide)).mono ?_
  rintro e w4 ⟨rfl, rfl⟩
  rw [mupd_same, show wd (by_ (some (w1.heap.size, wro (rsz (by_ none) 4) 2 [97, 98]))) 0 = 1650524160 from (by decide : wd (wro (rsz [] 4) 2 [97, 98]) 0 = 1650524160)]
  go_wp2_with fail
  refine (HM4.out.size 2 (by decide)).mono ?_
  rintro e w5 ⟨rfl, rfl⟩
  rw [mupd_other _ (by decide), mupd_other _ (by decide), show szI none = -1 from rfl]
  go_wp2
  go_ret
  exact ⟨rfl, HM4.out.bel⟩
end Go.Proofs.YtbolncddklgecaaDoor
