/- The contracts of the program's few, added, Flat, Add, Clip, Move. -/
import Derived.Test.YtlkodgmnhphfcaaDmgA
import Derived.Test.YtlkodgmnhphfcaaRgnU
import Derived.Test.YtlkodgmnhphfcaaRgfG
namespace Go.Proofs.Ytlkodgmnhphfcaa
open Go Go.RowKit

/-- More of them, one by one. -/
def dfm (l m : List Rc) : List Rc := m.foldl dput l
theorem dfm_snoc {l m : List Rc} {j : Nat} {r : Rc} (h : m[j]? = some r) : dfm l (m.take (j + 1)) = dput (dfm l (m.take j)) r := by
  rw [List.take_add_one, h]
  simp [dfm]
theorem dfm_all {l : List Rc} (h : Reg l) (h' : l.length ≤ 40) (m : List Rc) : Reg (dfm l m) ∧ (dfm l m).length ≤ 40 := by
  induction m generalizing l with
  | nil => exact ⟨h, h'⟩
  | cons r m ih => exact ih (dput_reg h r) (dput_len l r)

set_option maxRecDepth 100000 in
set_option maxHeartbeats 1000000 in
theorem dfew_any (a : Option Addr) (n c : Nat) (l : List Rc) (w : World) (h : RdC w a n c l) (hr : Reg l) :
    Calls Try.prog 43 #[.slice a n c] w (Ret w (if 40 < l.length then [cvl l] else l)) := by
  obtain rfl := h.len
  have hs := h.small
  have H := hid h
  clear h
  by_cases hg : 40 < l.length
  · have e1 : decide (40 < (l.length : Int)) = true := decide_eq_true (by omega)
    have k := cvl_full hr.ck (fun e => by rw [e] at hg; exact absurd hg (by decide))
    have C1 := hid (fun u hu => rcoverall_any a l.length c l u hu)
    have C2 := hid (fun u => of_any (cvl l) k.ok u)
    rw [if_pos (rgn_iff.2 hr)] at C1
    rw [ofl_ck k] at C2
    rw [if_pos hg]
    generalize cvl l = A0 at C1 C2 ⊢
    go_enter Try.func43, Try.ntmps43
    go_wp2_with fail
    refine (C1.out _ H.out).mono ?_
    rintro e w1 ⟨r, rfl, rfl, hb1⟩
    have HB1 := hid hb1
    clear hb1
    go_wp2_with fail
    refine (C2.out _).mono ?_
    rintro e w2 ⟨a2, c2, rfl, h2, hb2⟩
    have H2 := hid h2
    have HB2 := hid (Below.on HB1.out hb2)
    clear h2 hb2
    go_wp2
    go_ret
    exact ⟨_, _, rfl, H2.out, HB2.out⟩
  · have e1 : decide (40 < (l.length : Int)) = false := decide_eq_false (by omega)
    rw [if_neg hg]
    go_enter Try.func43, Try.ntmps43
    go_wp2
    go_ret
    exact ⟨_, _, rfl, H.out, Below.refl _ _⟩

set_option maxRecDepth 100000 in
set_option maxHeartbeats 1000000 in
theorem dadded_any (a a' : Option Addr) (n c n' c' : Nat) (l m : List Rc) (w : World) (h : RdC w a n c l) (h' : RdC w a' n' c' m) (hr : Reg l) (hn : n ≤ 40) :
    Calls Try.prog 28 #[.slice a n c, .slice a' n' c'] w (Ret w (dfm l m)) := by
  obtain rfl := h.len
  have HL := hid h'.len
  have hs := h'.small
  have H := hid h
  have H' := hid h'
  have HA := hid (fun j => dfm_all hr hn (m.take j))
  clear h h' hr hn
  go_enter Try.func28, Try.ntmps28
  go_wp2
  go_loopw [0, 9] (fun s0 s9 wr => ∃ (j : Nat) (b : Option Addr) (d : Nat), s9 = .int .i64 j ∧ s0 = .slice b (dfm l (m.take j)).length d ∧ j ≤ n' ∧ RdC wr b (dfm l (m.take j)).length d (dfm l (m.take j)) ∧ RowKit.Below w.heap.size w wr) (fun _ s9 _ => n' - (numOf s9).toNat)
  case atStart => exact ⟨0, _, _, rfl, rfl, by omega, H.out, Below.refl _ _⟩
  case round =>
    obtain ⟨j, b, d, rfl, rfl, hj, h3, hb⟩ := hrel
    have H3 := hid h3
    have HB := hid hb
    clear h3 hb H
    by_cases hgo : j < n'
    · have e1 : decide ((j : Int) < n') = true := decide_eq_true (by omega)
      obtain ⟨b2, off, r, rfl, _, hr, ok, he⟩ := (H'.out.on HB.out).el hgo
      obtain ⟨_, c0, c1, c2, c3⟩ := he
      obtain ⟨hreg, hlen⟩ := HA.out j
      have HS := hid (dfm_snoc (l := l) hr)
      generalize dfm l (m.take j) = A0 at hreg hlen HS H3 ⊢
      have hlo := ofl_length r
      have CO := hid (fun u => of_any r ok u)
      have CU := hid (fun u a2 c2 (h1 : RdC u b A0.length d A0) (h2 : RdC u a2 (ofl r).length c2 (ofl r)) => union_any b a2 A0.length d (ofl r).length c2 A0 (ofl r) u h1 h2 (by omega))
      rw [unn_reg hreg (ofl_reg r)] at CU
      have CW := hid (fun u a2 c2 (h1 : RdC u a2 (mk or A0 (ofl r)).length c2 (mk or A0 (ofl r))) => dfew_any a2 _ c2 _ u h1 (dor hreg r).1)
      rw [← dput] at CW
      generalize ofl r = O at CO CU CW hlo
      generalize mk or A0 O = U at CU CW
      generalize dput A0 r = D at CW HS
      have HN := hid (below_new wr (ob r))
      rw [ob] at HN
      clear hr ok hreg hlen hlo
      go_wp2_with fail
      refine (CO.out _).mono ?_
      rintro e w1 ⟨a1, c1', rfl, h1, hb1⟩
      have H1 := hid h1
      replace HN := hid (Below.on HN.out hb1)
      clear h1 hb1
      go_wp2_with fail
      refine (CU.out _ _ _ (H3.out.on HN.out) H1.out).mono ?_
      rintro e w2 ⟨a2, c2', rfl, h2, hb2⟩
      have H2 := hid h2
      replace HN := hid (Below.on HN.out hb2)
      clear h2 hb2
      go_wp2_with fail
      refine (CW.out _ _ _ H2.out).mono ?_
      rintro e w3 ⟨a3, c3', rfl, h4, hb3⟩
      have H4 := hid h4
      replace HN := hid (Below.on HN.out hb3)
      clear h4 hb3
      go_wp2
      go_roundw
      case rel => exact ⟨j + 1, _, _, by go_num, by rw [HS.out], by omega, by rw [HS.out]; exact H4.out, Below.on HB.out HN.out⟩
      case measure => simp [numOf]; omega
    · have e1 : decide ((j : Int) < n') = false := decide_eq_false (by omega)
      have HE : Hid (m.take j = m) := List.take_of_length_le (by rw [HL.out]; omega)
      rw [HE.out] at H3 ⊢
      go_wp2
      go_ret
      exact ⟨_, _, rfl, H3.out, HB.out⟩

set_option maxRecDepth 100000 in
set_option maxHeartbeats 1000000 in
theorem dflat_any (a : Option Addr) (n c : Nat) (l : List Rc) (w : World) (h : RdC w a n c l) :
    Calls Try.prog 18 #[.slice a n c] w (Ret w (dfl l)) := by
  have C1 := hid (dadded_any none a 0 0 n c [] l w (RdC.nil w) h reg_nil (by decide))
  clear h
  rw [show dfm [] l = dfl l from rfl] at C1
  generalize dfl l = D at C1 ⊢
  go_enter Try.func18, Try.ntmps18
  go_wp2_with fail
  refine C1.out.mono ?_
  rintro e w1 ⟨a1, c1, rfl, h1, hb1⟩
  have H1 := hid h1
  have HB1 := hid hb1
  clear h1 hb1
  go_wp2
  go_ret
  exact ⟨_, _, rfl, H1.out, HB1.out⟩


end Go.Proofs.Ytlkodgmnhphfcaa
