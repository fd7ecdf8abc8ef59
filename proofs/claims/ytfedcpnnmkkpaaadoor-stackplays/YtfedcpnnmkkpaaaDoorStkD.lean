/- The stack of a law, call by call; the document's example; the law's own 'below'. -/
import Derived.Test.YtfedcpnnmkkpaaaDoorStkC
namespace Go.Proofs.YtfedcpnnmkkpaaaDoor
open Go Go.RowKit

/-- ErrPlace's cell, out of the row's list. -/
def LP : List (String × DataW Unit × Nat) := [("tableau/api.ErrPlace", Rows.laid_tableau_api_ErrPlace, 0)]
theorem plone_of {W : World} (h : laidMetH Tryd.prog (LP.map fun x => (x.1, x.2.1)) W) : ∃ q, Pl W q := by
  rw [MakeChecks.laidMetH_plain _ _ _ (by kernel_rfl)] at h
  obtain ⟨es, he⟩ := errs_of_laid LP (fun x hx => by
    obtain rfl : x = ("tableau/api.ErrPlace", Rows.laid_tableau_api_ErrPlace, 0) := by simpa only [LP, List.mem_cons, List.not_mem_nil, or_false] using hx
    exact ⟨by kernel_rfl, by kernel_rfl, _, rfl⟩) h
  match es, he with
  | [a], he => exact ⟨a, ⟨(he.each 0 _ a rfl rfl).1⟩⟩
  | [], he => cases he.len
  | _ :: _ :: _, he => cases he.len

/-- A stack of the law's own, made since w0. -/
structure Kw (w0 w : World) (p : Nat) (l : List Int) : Prop where
  sk : Sk w p l
  bel : Below w0.heap.size w0 w
  ge : w0.heap.size ≤ p
  len : l.length ≤ 1000
variable {w0 w w' : World} {p : Nat} {l m : List Int} {a : Option Addr} {n c : Nat} {q : Addr}
theorem Kw.on (h : Kw w0 w p l) (hb : Below w.heap.size w w') : Kw w0 w' p l := ⟨h.sk.on hb, Below.on h.bel hb, h.ge, h.len⟩
theorem Kw.lt (h : Kw w0 w p l) : p < w.heap.size := h.sk.lt
theorem Kw.kp (h : Kw w0 w p l) (hs : SkR w p m w') (hm : m.length ≤ 1000) : Kw w0 w' p m := ⟨hs.1, h.bel.trans (hs.2.below h.bel.size (fun k hk => by rw [List.mem_singleton.1 hk]; exact h.ge)), h.ge, hm⟩
theorem kwnew (w : World) : Calls Tryd.prog 6 #[] w fun e w' => e = .returned (.pointer (some ⟨w.heap.size, 0, none⟩)) ∧ Kw w w' w.heap.size [] :=
  (knew_any w).mono fun _ _ ⟨h1, h2, h3⟩ => ⟨h1, h3, h2, Nat.le_refl _, by simp⟩
theorem Kw.raise (h : Kw w0 w p l) (hl : l.length < 1000) (k : Int) (hp : Pl w0 q) :
    Calls Tryd.prog 7 #[.pointer (some ⟨p, 0, none⟩), .int .i64 k] w fun e w' => (∃ v, e = .returned v) ∧ Kw w0 w' p (rse l k) ∧ Kp [p] w w' :=
  (kraise_any h.sk (by omega) k q (hp.on h.bel)).mono fun _ _ ⟨h1, h2⟩ => ⟨h1, h.kp h2 (by have := rse_length l k; omega), h2.2⟩
theorem Kw.drop (h : Kw w0 w p l) (k : Int) (hp : Pl w0 q) :
    Calls Tryd.prog 9 #[.pointer (some ⟨p, 0, none⟩), .int .i64 k] w fun e w' => (∃ v, e = .returned v) ∧ Kw w0 w' p (dr k l) ∧ Kp [p] w w' :=
  (kdrop_any h.sk (by have := h.len; omega) k q (hp.on h.bel)).mono fun _ _ ⟨h1, h2⟩ => ⟨h1, h.kp h2 (by have := dr_length k l; have := h.len; omega), h2.2⟩
theorem Kw.all (h : Kw w0 w p l) :
    Calls Tryd.prog 12 #[.pointer (some ⟨p, 0, none⟩)] w fun e w' => ∃ a c, e = .returned (.slice a l.length c) ∧ Rz w' a l.length c l ∧ Kw w0 w' p l ∧ Below w.heap.size w w' :=
  (kall_any h.sk (by have := h.len; omega)).mono fun _ _ ⟨v, h1, h2⟩ => by
    obtain ⟨a, c, rfl, h3, _⟩ := h2.rd
    exact ⟨a, c, h1, h3, h.on h2.bel, h2.bel⟩
theorem Kw.top (h : Kw w0 w p l) :
    Calls Tryd.prog 13 #[.pointer (some ⟨p, 0, none⟩)] w fun e w' => e = .returned (.int .i64 (topZ l)) ∧ Kw w0 w' p l ∧ Below w.heap.size w w' :=
  (ktop_any h.sk).mono fun _ _ ⟨h1, h2⟩ => ⟨h1, h.on h2, h2⟩
theorem Kw.next (h : Kw w0 w p l) (k : Int) :
    Calls Tryd.prog 14 #[.pointer (some ⟨p, 0, none⟩), .int .i64 k] w fun e w' => e = .returned (.int .i64 (nxt l k)) ∧ Kw w0 w' p l ∧ Below w.heap.size w w' :=
  (knext_any h.sk k).mono fun _ _ ⟨h1, h2⟩ => ⟨h1, h.on h2, h2⟩
theorem Kw.rz (h : Kw w0 w p l) (hk : Kp [p] w w') (hr : Rz w a n c m) : Rz w' a n c m := hr.kp1 h.sk hk

theorem eqlP (g : Nat) (w : World) : (binOp BinOp.eql 23 (.pointer (some ⟨g, 0, none⟩)) (.pointer none)).run Tryd.prog w = .ok (.bool false) w := by
  simp [go_sem, Tryd.underlying23]

set_option maxRecDepth 100000 in
set_option maxHeartbeats 1000000 in
theorem kawake_any (w : World) (hp : Pl w q) :
    Calls Tryd.prog 16 #[] w fun e w' => e = .returned (.bool true) ∧ Below w.heap.size w w' := by
  have HP := hid hp
  clear hp
  go_enter Tryd.func16, Tryd.ntmps16
  go_wp2_with fail
  refine (kwnew w).mono ?_
  rintro e w1 ⟨rfl, h1⟩
  generalize w.heap.size = g at *
  have H1 := hid h1
  clear h1
  go_wp2_with fail
  refine (H1.out.raise (by simp) 1 HP.out).mono ?_
  rintro e w2 ⟨⟨v, rfl⟩, h2, -⟩
  have H2 := hid h2
  clear h2 H1
  go_wp2_with fail
  refine (H2.out.raise (by decide) 2 HP.out).mono ?_
  rintro e w3 ⟨⟨v, rfl⟩, h3, -⟩
  have H3 := hid h3
  clear h3 H2
  go_wp2_with fail
  refine (H3.out.raise (by decide) 1 HP.out).mono ?_
  rintro e w4 ⟨⟨v, rfl⟩, h4, -⟩
  have H4 : Hid (Kw w w4 g [2, 1]) := h4
  clear h4 H3
  go_wp2_with fail
  refine H4.out.all.mono ?_
  rintro e w5 ⟨a5, c5, rfl, hr5, h5, -⟩
  have HR5 := hid hr5
  have H5 := hid h5
  clear hr5 h5 H4
  go_wp2_with fail
  have hb5 : RowKit.Below w5.heap.size w5 (w5.alloc (.cells #[.int .i64 2, .int .i64 1] 3)) := (Below.refl _ _).alloc (Nat.le_refl _) _
  refine (samez_any _ _ _ _ _ _ _ [2, 1] _ (HR5.out.on hb5) (rz_lit (l := [2, 1]) (heap_alloc_new w5 _) (by decide))).mono ?_
  rintro e w6 ⟨rfl, q6, rfl⟩
  rw [zeq_same]
  have H6 := hid ((H5.out.on hb5).on (below_drewN (Below.refl _ _) q6))
  clear HR5 H5 hb5
  generalize World.drewN _ _ = W6 at *
  go_wp2_with fail
  refine H6.out.top.mono ?_
  rintro e w7 ⟨rfl, h7, -⟩
  rw [show topZ [2, 1] = 1 by decide]
  have H7 := hid h7
  clear h7 H6
  go_wp2_with fail
  refine (H7.out.next 1).mono ?_
  rintro e w8 ⟨rfl, h8, -⟩
  rw [show nxt [2, 1] 1 = 2 by decide]
  have H8 := hid h8
  clear h8 H7
  go_wp2
  go_ret
  exact ⟨rfl, H8.out.bel⟩
end Go.Proofs.YtfedcpnnmkkpaaaDoor
