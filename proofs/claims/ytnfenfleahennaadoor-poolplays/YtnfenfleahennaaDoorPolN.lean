/- SameInts; same: is a buffer the document's? -/
import Derived.Test.YtnfenfleahennaaDoorPolM
import Derived.Test.YtnfenfleahennaaDoorPolL
import Derived.BigQuiet
namespace Go.Proofs.YtnfenfleahennaaDoor
open Go Go.RowKit

/-- A row of numbers that a call made, as a slice. -/
theorem ints_of_owns {w : World} {base e n : Nat} {v : Value} {zs : List Int} (h : w.ownsRow base e 1 v n (zs.map encZ)) : ∃ a c, v = .slice a n c ∧ zs.length = n ∧ n ≤ c ∧ c ≤ maxLen ∧ (a = none → n = 0) ∧ ∀ x, a = some x → ∃ g, x = ⟨g, 0, none⟩ ∧ base ≤ g ∧ g < w.heap.size ∧ ∀ j z, zs[j]? = some z → w.cell? ⟨g, j, none⟩ = some (.int .i64 z) := by
  have hl : zs.length = n := by have := h.1; rw [List.length_map] at this; omega
  rcases h.2 with ⟨rfl, rfl⟩ | ⟨g, cap, cur, rfl, hb, hg, hn, hm, _, _⟩
  · exact ⟨none, 0, rfl, hl, Nat.le_refl _, Nat.zero_le _, fun _ => rfl, fun x hx => by cases hx⟩
  · refine ⟨some ⟨g, 0, none⟩, cap, rfl, hl, hn, hm, (fun h => by cases h), fun x hx => ?_⟩
    cases hx
    refine ⟨g, rfl, hb, (Array.getElem?_eq_some_iff.1 hg).1, fun j z hz => ?_⟩
    have := h.cells rfl j (.int .i64 z) (by rw [List.getElem?_map, hz]; rfl)
    rw [Go.WideShapes.add_plain, Nat.zero_add] at this
    exact this

/-- A slice whose first n cells are the numbers l. -/
structure RdZ (w : World) (a : Option Addr) (n : Nat) (l : List Int) : Prop where
  len : l.length = n
  hnil : a = none → n = 0
  cells : ∀ x, a = some x → ∃ g, x = ⟨g, 0, none⟩ ∧ g < w.heap.size ∧ ∀ j z, l[j]? = some z → w.cell? ⟨g, j, none⟩ = some (.int .i64 z)

theorem RdZ.on {w u : World} {a : Option Addr} {n : Nat} {l : List Int} (h : RdZ w a n l) (hb : Below w.heap.size w u) : RdZ u a n l :=
  ⟨h.len, h.hnil, fun x hx => by
    obtain ⟨g, h1, h2, h3⟩ := h.cells x hx
    exact ⟨g, h1, Nat.lt_of_lt_of_le h2 hb.size, fun j z hz => by rw [hb.cell h2]; exact h3 j z hz⟩⟩
theorem rdz_nil (w : World) : RdZ w none 0 [] := ⟨rfl, fun _ => rfl, fun _ h => by cases h⟩
theorem rdz_of {w : World} {base e n : Nat} {v : Value} {zs : List Int} (h : w.ownsRow base e 1 v n (zs.map encZ)) : ∃ a c, v = .slice a n c ∧ RdZ w a n zs := by
  obtain ⟨a, c, rfl, hl, _, _, hn, hc⟩ := ints_of_owns h
  exact ⟨a, c, rfl, hl, hn, fun x hx => by
    obtain ⟨g, h1, _, h2, h3⟩ := hc x hx
    exact ⟨g, h1, h2, h3⟩⟩

set_option maxRecDepth 100000 in
set_option maxHeartbeats 1000000 in
theorem same_any (a : Option Addr) (n c : Nat) (a' : Option Addr) (c' : Nat) (l : List Int) (w : World) (hr : RdZ w a n l) (hr' : RdZ w a' n l) (hn : n ≤ 1000000) :
    Calls Tryd.prog 28 #[.slice a n c, .slice a' n c'] w fun e w' => e = .returned (.bool true) ∧ Below w.heap.size w w' := by
  have HR := hid hr
  have HR' := hid hr'
  have n1 : ((n : Int) != n) = false := by simp
  clear hr hr'
  go_enter Tryd.func28, Tryd.ntmps28
  go_wp2
  go_loopw [5] (fun i wr => ∃ j : Nat, j ≤ n ∧ i = .int .i64 j ∧ ∃ r, wr = w.drewN r) (fun i _ => n - (numOf i).toNat)
  case atStart => exact ⟨0, Nat.zero_le _, rfl, 0, rfl⟩
  case round =>
    obtain ⟨j, hj, rfl, r, rfl⟩ := hrel
    by_cases hlt : j < n
    · obtain ⟨x, rfl⟩ : ∃ x, a = some x := by
        cases a with
        | none => have := HR.out.hnil rfl; omega
        | some x => exact ⟨x, rfl⟩
      obtain ⟨x', rfl⟩ : ∃ x, a' = some x := by
        cases a' with
        | none => have := HR'.out.hnil rfl; omega
        | some x => exact ⟨x, rfl⟩
      obtain ⟨g, rfl, hg, hc⟩ := HR.out.cells x rfl
      obtain ⟨g', rfl, hg', hc'⟩ := HR'.out.cells x' rfl
      have hlen := HR.out.len
      obtain ⟨z, hz⟩ : ∃ z, l[j]? = some z := ⟨_, List.getElem?_eq_getElem (by omega)⟩
      have c0 := hc j z hz
      have d0 := hc' j z hz
      have n2 : (z != z) = false := by simp
      clear hz hc hc' hlen
      have hlt' : (j : Int) < n := by omega
      go_wp2
      go_quiet (fail)
      go_wp2
      go_roundw
      case rel => exact ⟨j + 1, by omega, by go_num, _, rfl⟩
      case measure => simp [numOf]; omega
    · go_wp2
      go_ret
      exact ⟨rfl, below_drewN (Below.refl _ _) _⟩

variable {bp bd : Nat} {w : World} {p a b q : Nat} {P : PL} {B : BL}

set_option maxRecDepth 100000 in
set_option maxHeartbeats 1000000 in
theorem psame_any (hT : Pst bp w p a b P B) (hD : Dst bd w q P B) (hn : B.length < 999) (id : Int) (hi : I64 id) :
    Calls Tryd.prog 31 #[.pointer (some ⟨p, 0, none⟩), .pointer (some ⟨q, 0, none⟩), .int .i64 id] w fun e w' => e = .returned (.bool true) ∧ Below w.heap.size w w' := by
  have HI := hid (pinfo_any hT id hi)
  obtain ⟨⟨x, dr⟩, hq⟩ : ∃ x, x = (gt B id).getD (nf0, false) := ⟨_, rfl⟩
  obtain ⟨k, hk⟩ : ∃ k, k = (gt B id).isSome := ⟨_, rfl⟩
  have HV : Hid (infoV B id = .tuple #[.agg #[.int .i64 x.k, .int .i64 x.o, .int .i64 x.w, .int .i64 x.h, .int .i64 x.s, .int .i64 x.f], .bool k]) := by rw [Hid, infoV, ← hq, ← hk]; rfl
  have HD := hid (fun u hu => rinfo_any (hD.on (w' := u) hu) (by omega) id)
  rw [HV.out] at HI HD
  have n0 : (k == k) = true := by simp
  have n1 : (x.k == x.k) = true := by simp
  have n2 : (x.o == x.o) = true := by simp
  have n3 : (x.w == x.w) = true := by simp
  have n4 : (x.h == x.h) = true := by simp
  have n5 : (x.s == x.s) = true := by simp
  have n6 : (x.f == x.f) = true := by simp
  clear hT hD hq hk HV
  go_enter Tryd.func31, Tryd.ntmps31
  go_wp2_with fail
  refine HI.out.mono ?_
  rintro e w1 ⟨rfl, hb⟩
  have hb2 : Below w.heap.size w (w1.alloc (.cells #[.int .i64 x.k, .int .i64 x.o, .int .i64 x.w, .int .i64 x.h, .int .i64 x.s, .int .i64 x.f] 60)) := hb.alloc hb.size _
  have HB2 := hid hb2
  have HV1 : Hid ((w1.alloc (.cells #[.int .i64 x.k, .int .i64 x.o, .int .i64 x.w, .int .i64 x.h, .int .i64 x.s, .int .i64 x.f] 60)).heap[w1.heap.size]? = some (.cells #[.int .i64 x.k, .int .i64 x.o, .int .i64 x.w, .int .i64 x.h, .int .i64 x.s, .int .i64 x.f] 60 (0, 0))) := heap_alloc_new _ _
  clear hb hb2
  go_wp2_with fail
  refine (HD.out _ HB2.out).mono ?_
  rintro e w2 ⟨rfl, hb⟩
  have HV2 := hid ((kp_of_below hb []).var HV1.out (by simp))
  have HB3 := hid (Below.on HB2.out hb)
  generalize w1.heap.size = g1 at *
  have hg1 : g1 < w2.heap.size := (Array.getElem?_eq_some_iff.1 HV2.out).1
  obtain ⟨d0, d1, d2, d3, d4, d5⟩ := nb_cells (q := x) HV2.out
  clear hb HV1 HB2
  go_wp2
  go_ret
  exact ⟨rfl, HB3.out.alloc HB3.out.size _⟩
end Go.Proofs.YtnfenfleahennaaDoor
