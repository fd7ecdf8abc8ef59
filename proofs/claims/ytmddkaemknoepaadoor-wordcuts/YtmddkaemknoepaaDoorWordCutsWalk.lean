/- WordCuts' walk: for every text and every number the law returns true; nothing that was there is turned. -/
import Derived.Test.YtmddkaemknoepaaDoorWordC
import Derived.Test.YtmddkaemknoepaaDoorWordM
import Derived.Test.YtmddkaemknoepaaDoorKindA
namespace Go.Proofs.YtmddkaemknoepaaDoor.wordCuts
open Go Go.RowKit

theorem tmod_cases (v n : Int) (hn : 0 < n) : (v.tmod n = v % n ∧ 0 ≤ v.tmod n) ∨ (v.tmod n = v % n - n ∧ v.tmod n < 0) := by
  have h := Int.tmod_eq_emod (a := v) (b := n)
  have h1 := Int.emod_nonneg v (show n ≠ 0 by omega)
  have h2 := Int.emod_lt_of_pos v hn
  split at h
  · exact .inl ⟨by omega, by omega⟩
  · exact .inr ⟨by omega, by omega⟩

theorem place_any (v n : Int) (hn : 0 < n) (hn2 : n ≤ 1000000) (w : World) :
    Calls Tryd.prog 27 #[.int .i64 v, .int .i64 n] w fun e w' => e = .returned (.int .i64 (v % n)) ∧ w' = w := by
  have h0 : (n == 0) = false := beq_eq_false_iff_ne.2 (by omega)
  have h1 := Int.emod_nonneg v (show n ≠ 0 by omega)
  have h2 := Int.emod_lt_of_pos v hn
  rcases tmod_cases v n hn with ⟨e, h⟩ | ⟨e, h⟩
  · have E : Hid (v.tmod n = v % n) := e
    clear e
    go_enter Tryd.func27, Tryd.ntmps27
    go_wp2
    go_ret
    exact ⟨ret_int (by rw [E.out]), rfl⟩
  · have E : Hid (v.tmod n = v % n - n) := e
    have hb : -1000000 ≤ v.tmod n := by omega
    clear e
    go_enter Tryd.func27, Tryd.ntmps27
    go_wp2
    go_ret
    exact ⟨ret_int (by rw [E.out]; omega), rfl⟩

theorem _root_.Go.Proofs.YtmddkaemknoepaaDoor.Rd.take {w : World} {a : Option Addr} {n c : Nat} {l : List UInt8} (h : Rd w a n c l) (k : Nat) (hk : k ≤ n) : Rd w a k c (l.take k) := by
  refine ⟨by rw [List.length_take, h.len]; omega, Nat.le_trans hk h.le, h.max, h.hnil, fun x hx j u hu => h.cells x hx j u ?_⟩
  have hj : j < k := by
    rcases Nat.lt_or_ge j k with h' | h'
    · exact h'
    · rw [List.getElem?_eq_none (by rw [bc_length, List.length_take]; omega)] at hu; cases hu
  rw [← hu, bc, bc, List.getElem?_map, List.getElem?_map, List.getElem?_take_of_lt hj]

theorem putText_rd (w : World) (s : ByteArray) (hs : s.size ≤ 99999) :
    Calls Tryd.prog 11 #[.slice none 0 0, .string s] w fun e w' => ∃ x c, e = .returned (.slice (some x) (putl (s.data.toList ++ [0])).length c) ∧ Rd w' (some x) (putl (s.data.toList ++ [0])).length c (putl (s.data.toList ++ [0])) ∧ Below w.heap.size w w' := by
  refine (putText_any w none 0 0 [] (Rd.nil w) s hs (by decide)).mono ?_
  rintro e w' ⟨r, rfl, ho, hb⟩
  rw [Nat.zero_add, List.nil_append] at ho
  obtain ⟨a, c, rfl, hr, _⟩ := rd_of_owns ho
  cases a with
  | none => have h1 := hr.hnil rfl; have h2 := hr.le; have h3 := putl_length (s.data.toList ++ [0]); omega
  | some x => exact ⟨x, c, rfl, hr, hb⟩

theorem below_drew {u v : World} {B : Nat} (h : Below B u v) {w' : World} (hq : ∃ q, w' = v.drewN q) : Below B u w' := by
  obtain ⟨q, rfl⟩ := hq
  exact ⟨h.os, h.tape, h.output, h.size, h.block⟩

theorem text_err (w : World) (a : Option Addr) (n c : Nat) (l : List UInt8) (hr : Rd w a n c l) (hn : n ≤ 140737488355328) (es : List Addr) (hE : E4 w es) (E : Nat) (h : txtE l 0 = E) (h0 : E ≠ 0) :
    Calls Tryd.prog 21 #[.slice a n c, .int .i64 0] w fun e w' => e = .returned (.tuple #[.string ⟨#[]⟩, .int .i64 0, erv es E]) ∧ Below w.heap.size w w' := by
  refine (getText_any w a n c l hr hn es hE 0).mono ?_
  rintro e w' ⟨rfl, hq⟩
  subst h
  have e2 : txtS l 0 = [] := by rw [txtS, if_neg h0]
  have e3 : txtN l 0 = 0 := by rw [txtN, if_neg h0]
  rw [e2, e3]
  exact ⟨rfl, below_drew (Below.refl _ _) hq⟩

theorem txt_two (s : List UInt8) (hs : s.length ≤ 4000) : txtE (putl (s ++ [0, 120] ++ [0])) 0 = 3 := by
  obtain ⟨e1, e2, _⟩ := lst_in [] (s ++ [0, 120] ++ [0]) [] (by simp; omega)
  rw [List.nil_append, List.append_nil] at e1 e2
  have e1 : lstE (putl (s ++ [0, 120] ++ [0])) 0 = 0 := e1
  have e2 : lstS (putl (s ++ [0, 120] ++ [0])) 0 = s ++ [0, 120] ++ [0] := e2
  rw [txtE, if_neg (by rw [e1]; decide), e2, show s ++ [0, 120] ++ [0] = (s ++ [0]) ++ [120, 0] by simp, ended_no _ _ (by simp) (by decide)]
  rfl

set_option maxRecDepth 100000 in
set_option maxHeartbeats 1000000 in
theorem core (s : ByteArray) (p : Int) (w : World) (hs : s.size ≤ 2000) (es : List Addr) (hE : E4 w es) (hF : Errs w gerrs es) :
    Calls Tryd.prog 5 #[.string s, .int .i64 p] w fun e w' => e = .returned (.bool true) ∧ Below w.heap.size w w' := by
  have hsz := size_toList s
  have hl : (s.data.toList ++ [(0 : UInt8)]).length = s.size + 1 := by rw [List.length_append, hsz]; rfl
  have hL := putl_length (s.data.toList ++ [0])
  have hcut := txt_cut (s.data.toList ++ [0]) (by omega)
  generalize hLL : putl (s.data.toList ++ [(0 : UInt8)]) = L at hL hcut
  have hL4 : 4 ≤ L.length := by omega
  have hLm : L.length ≤ 3000 := by omega
  have HP : Hid (Calls Tryd.prog 11 #[.slice none 0 0, .string s] w fun e w' => ∃ x c, e = .returned (.slice (some x) L.length c) ∧ Rd w' (some x) L.length c L ∧ Below w.heap.size w w') := by
    have h := putText_rd w s (by omega)
    rw [hLL] at h
    exact h
  have hp0 := Int.emod_nonneg p (show (L.length : Int) ≠ 0 by omega)
  have hp1 := Int.emod_lt_of_pos p (show 0 < (L.length : Int) by omega)
  obtain ⟨k, hk⟩ := Int.eq_ofNat_of_zero_le hp0
  have HPl : Hid (∀ u, Calls Tryd.prog 27 #[.int .i64 p, .int .i64 (L.length : Nat)] u fun e w' => e = .returned (.int .i64 (k : Nat)) ∧ w' = u) := fun u => by
    have h := place_any p (L.length : Int) (by omega) (by omega) u
    rw [hk] at h
    exact h
  have hkL : k < L.length := by omega
  have HC : Hid (txtE (L.take k) 0 = 2) := hcut k hkL
  have HP2 : Hid (∀ u, Calls Tryd.prog 11 #[.slice none 0 0, .string (s ++ ⟨#[0, 120]⟩)] u fun e w' => ∃ a n c l, e = .returned (.slice a n c) ∧ Rd w' a n c l ∧ n ≤ 140737488355328 ∧ txtE l 0 = 3 ∧ Below u.heap.size u w') := fun u => by
    have e : (s ++ (⟨#[0, 120]⟩ : ByteArray)).data.toList = s.data.toList ++ [0, 120] := by simp
    have h := putText_rd u (s ++ ⟨#[0, 120]⟩) (by rw [ByteArray.size_append]; show s.size + 2 ≤ 99999; omega)
    rw [e] at h
    refine h.mono ?_
    rintro e w' ⟨x, c, rfl, hr, hb⟩
    exact ⟨some x, _, c, _, rfl, hr, by rw [putl_length]; simp; omega, txt_two _ (by omega), hb⟩
  have HF : Hid (Errs w gerrs es) := hF
  have HE : Hid (E4 w es) := hE
  have hnl : ¬ ((2000 : Int) < s.size) := by omega
  have hn4 : ¬ ((L.length : Int) < 4) := by omega
  clear hE hF hcut hsz hl hLL hL hp0 hp1 hk
  go_enter Tryd.func5, Tryd.ntmps5
  go_wp2_with fail
  refine HP.out.mono ?_
  rintro e w1 ⟨x, c, rfl, r1, b1⟩
  have hc := r1.le
  have hcm := r1.max
  unfold maxLen at hcm
  have HR : Hid (Rd w1 (some x) L.length c L) := r1
  clear r1
  go_wp2_with fail
  refine (HPl.out _).mono ?_
  rintro e w2 ⟨rfl, rfl⟩
  go_wp2_with fail
  refine (text_err w2 (some x) k c _ (HR.out.take k (by omega)) (by omega) es (HE.out.below b1) 2 HC.out (by decide)).mono ?_
  rintro e w3 ⟨rfl, b3⟩
  have b3 : Below w.heap.size w w3 := b1.trans (b3.mono b1.size)
  go_wp2_with fail
  refine (HP2.out _).mono ?_
  rintro e w4 ⟨a4, n4, c4, l4, rfl, r4, hn4', ht4, b4⟩
  have b4 : Below w.heap.size w w4 := b3.trans (b4.mono b3.size)
  have HT : Hid (∀ _ : Unit, Calls Tryd.prog 21 #[.slice a4 n4 c4, .int .i64 0] w4 fun e w' => e = .returned (.tuple #[.string ⟨#[]⟩, .int .i64 0, erv es 3]) ∧ Below w4.heap.size w4 w') := fun _ => text_err w4 a4 n4 c4 l4 r4 hn4' es (HE.out.below b4) 3 ht4 (by decide)
  clear r4 hn4' ht4
  go_wp2_with fail
  refine (HT.out ()).mono ?_
  rintro e w5 ⟨rfl, b5⟩
  have b5 : Below w.heap.size w w5 := b4.trans (b5.mono b4.size)
  go_wp2_with fail
  refine (kind_erv w5 es (HF.out.below b5) 2 (by decide)).mono ?_
  rintro e w6 ⟨rfl, b6⟩
  have b6 : Below w.heap.size w w6 := b5.trans (b6.mono b5.size)
  go_wp2_with fail
  refine (kind_erv w6 es (HF.out.below b6) 3 (by decide)).mono ?_
  rintro e w7 ⟨rfl, b7⟩
  have b7 : Below w.heap.size w w7 := b6.trans (b7.mono b6.size)
  go_wp2_with fail
  refine (awake_any _).mono ?_
  rintro e w8 ⟨rfl, b8⟩
  go_wp2
  go_ret
  exact ⟨rfl, b7.trans (b8.mono b7.size)⟩

set_option maxRecDepth 100000 in
theorem long (s : ByteArray) (p : Int) (w : World) (hs : 2000 < s.size) :
    Calls Tryd.prog 5 #[.string s, .int .i64 p] w fun e w' => e = .returned (.bool true) ∧ Below w.heap.size w w' := by
  go_enter Tryd.func5, Tryd.ntmps5
  go_wp2_with fail
  refine (awake_any _).mono ?_
  rintro e w1 ⟨rfl, b1⟩
  go_wp2
  go_ret
  exact ⟨rfl, b1⟩

theorem walk (s : ByteArray) (p : Int) (w : World) (_ : s.size ≤ 140737488351232) (_ : (Lit.int .i64 p).wf = true) (hL : laidMetH Tryd.prog Rows.wordCutsRow.laid w) :
    Calls Tryd.prog 5 #[.string s, .int .i64 p] w fun e w' => e = .returned (.bool true) ∧ Below w.heap.size w w' := by
  obtain ⟨es, hF⟩ := errs16 hL
  by_cases h : s.size ≤ 2000
  · exact core s p w h es (E4.of hF rfl) hF
  · exact long s p w (by omega)
end Go.Proofs.YtmddkaemknoepaaDoor.wordCuts
