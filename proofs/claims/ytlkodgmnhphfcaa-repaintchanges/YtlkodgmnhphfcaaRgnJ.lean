/- The contracts of the program's touch, slices.EqualFunc, parted, Check. -/
import Derived.Test.YtlkodgmnhphfcaaRgnI
namespace Go.Proofs.Ytlkodgmnhphfcaa
open Go Go.RowKit

/-- A slice's length. -/
def lenOf : Value → Nat
  | .slice _ n _ => n
  | _ => 0

theorem RdC.take {w : World} {a : Option Addr} {n c : Nat} {l : List Rc} (h : RdC w a n c l) {k : Nat} (hk : k ≤ n) : RdC w a k c (l.take k) := by
  have hl := h.len
  have hle := h.le
  refine ⟨by rw [List.length_take]; omega, by omega, h.max, h.hnil, fun hk0 => ?_, fun r hr => h.ok r (List.mem_of_mem_take hr)⟩
  obtain ⟨b, off, e, h1, h2⟩ := h.pl (by omega)
  refine ⟨b, off, e, h1, fun j r hr => h2 j r ?_⟩
  rcases Nat.lt_or_ge j k with hj | hj
  · rwa [List.getElem?_take_of_lt hj] at hr
  · rw [List.getElem?_eq_none (by rw [List.length_take]; omega)] at hr; cases hr
theorem RdC.drop {w : World} {b off n c : Nat} {l : List Rc} (h : RdC w (some ⟨b, off, none⟩) n c l) {k : Nat} (hk : k ≤ n) : RdC w (some ⟨b, off + k * 4, none⟩) (n - k) (c - k) (l.drop k) := by
  have hl := h.len
  have hle := h.le
  have hm := h.max
  refine ⟨by rw [List.length_drop]; omega, by omega, by omega, (fun h => by cases h), fun hk0 => ?_, fun r hr => h.ok r (List.mem_of_mem_drop hr)⟩
  obtain ⟨b', off', e, h1, h2⟩ := h.pl (by omega)
  cases e
  refine ⟨b, off + k * 4, rfl, h1, fun j r hr => ?_⟩
  rw [List.getElem?_drop] at hr
  have := h2 _ _ hr
  rwa [show off + k * 4 + j * 4 = off + (k + j) * 4 by omega]
theorem RdC.none_of {w : World} (a : Option Addr) (c : Nat) (hc : c ≤ maxLen) (hn : a = none → c = 0) : RdC w a 0 c [] := ⟨rfl, Nat.zero_le _, hc, hn, fun h => absurd h (by omega), by simp⟩

set_option maxRecDepth 100000 in
set_option maxHeartbeats 1000000 in
theorem touch_any (a a' : Option Addr) (n c n' c' : Nat) (l : List Rc) (r : Rc) (t : List Rc) (w : World) (h : RdC w a n c l) (h' : RdC w a' n' c' (r :: t)) (hk : ∀ x ∈ l, Ck x) :
    Calls Try.prog 72 #[.slice a n c, .slice a' n' c'] w fun e w' => e = .returned (.bool (tch l r.y)) ∧ ∃ q, w' = w.drewN q := by
  have hl := h.len
  have hl' := h'.len
  have hn63 := h.small.1
  have hn63' := h'.small.1
  cases l with
  | nil =>
    obtain rfl : n = 0 := hl.symm
    go_enter Try.func72, Try.ntmps72
    go_wp2
    go_quiet (fail)
    go_wp2
    go_ret
    exact ⟨rfl, _, rfl⟩
  | cons x l =>
    have hn0 : 0 < n := by rw [← hl]; simp
    have hn1 : 0 < n' := by rw [← hl']; simp
    obtain ⟨b, off, rfl, hb, hel⟩ := h.pl hn0
    obtain ⟨b', off', rfl, hb', hel'⟩ := h'.pl hn1
    obtain ⟨_, _, y0, _, h0⟩ := hel 0 x rfl
    obtain ⟨_, _, y1, _, _⟩ := hel' 0 r rfl
    simp only [Nat.zero_mul, Nat.add_zero] at y0 h0 y1
    obtain ⟨k1, k2, k3, k4, k5, k6⟩ := hk x (by simp)
    have e1 : decide (0 < (n : Int)) = true := decide_eq_true (by omega)
    have e2 : IntKind.i64.wrap (x.y + x.h) = x.y + x.h := by rw [IntKind.wrap_i64]; omega
    clear hel hel' h h' hl hl' hk
    go_enter Try.func72, Try.ntmps72
    go_wp2
    go_quiet (fail)
    go_wp2
    go_ret
    exact ⟨ret_bool (by simp [tch]; rfl), _, rfl⟩

theorem eqs_cons (a b : Rc) (l m : List Rc) : eqs (a :: l) (b :: m) = (ssp a b && eqs l m) := by
  rw [Bool.eq_iff_iff]
  simp only [eqs, ssp, Bool.and_eq_true, decide_eq_true_eq, List.length_cons, List.zip_cons_cons, List.all_cons]
  constructor
  · rintro ⟨h1, h2, h3⟩; exact ⟨h2, by omega, h3⟩
  · rintro ⟨h2, h1, h3⟩; exact ⟨by omega, h2, h3⟩
theorem eqs_nil : eqs [] [] = true := rfl
theorem eqs_len {l m : List Rc} (h : l.length ≠ m.length) : eqs l m = false := by rw [eqs, decide_eq_false h]; rfl

set_option maxRecDepth 100000 in
set_option maxHeartbeats 1000000 in
theorem equalfunc_any (a a' : Option Addr) (n c n' c' : Nat) (l m : List Rc) (w : World) (h : RdC w a n c l) (h' : RdC w a' n' c' m) :
    Calls Try.prog 73 #[.slice a n c, .slice a' n' c', .func (.func 74) #[] #[]] w fun e w' => e = .returned (.bool (eqs l m)) ∧ Below w.heap.size w w' := by
  have hl := h.len
  have hl' := h'.len
  have hn63 := h.small.1
  have hn63' := h'.small.1
  by_cases hnn : n = n'
  · subst hnn
    have H := hid h
    have H' := hid h'
    clear h h'
    go_enter Try.func73, Try.ntmps73
    go_wp2
    go_loopw [17] (fun i wr => ∃ j : Nat, i = .int .i64 j ∧ j ≤ n ∧ eqs (l.drop j) (m.drop j) = eqs l m ∧ RowKit.Below w.heap.size w wr) (fun i _ => n - (numOf i).toNat)
    case atStart => exact ⟨0, rfl, by omega, rfl, Below.refl _ _⟩
    case round =>
      obtain ⟨j, rfl, hj, hq, hb⟩ := hrel
      by_cases hgo : j < n
      · have e1 : decide ((j : Int) < n) = true := decide_eq_true (by omega)
        obtain ⟨b, off, x, rfl, _, hx, _, he⟩ := (H.out.on hb).el hgo
        obtain ⟨b', off', y, rfl, _, hy, _, he'⟩ := (H'.out.on hb).el hgo
        have HD : Hid (eqs l m = (ssp x y && eqs (l.drop (j + 1)) (m.drop (j + 1)))) := by
          rw [Hid, ← hq, drop_at hx, drop_at hy, eqs_cons]
        obtain ⟨_, c0, c1, c2, c3⟩ := he
        obtain ⟨_, d0, d1, d2, d3⟩ := he'
        have HB := hid hb
        clear hx hy hq hb hl hl'
        have CS := hid (fun w => samespan_any x y w)
        cases hs : ssp x y
        · rw [hs] at CS
          have HE : Hid (eqs l m = false) := by rw [Hid, HD.out, hs]; rfl
          go_wp2_with fail
          refine (CS.out _).mono ?_
          rintro e w2 ⟨rfl, hb2⟩
          obtain ⟨_, _, hb3⟩ := box2 x y hb2
          have HB3 := hid (Below.on HB.out hb3)
          clear hb2 hb3
          go_wp2
          go_ret
          rw [HE.out]
          exact ⟨rfl, HB3.out⟩
        · rw [hs] at CS
          have HE : Hid (eqs (l.drop (j + 1)) (m.drop (j + 1)) = eqs l m) := by rw [Hid, HD.out, hs]; rfl
          go_wp2_with fail
          refine (CS.out _).mono ?_
          rintro e w2 ⟨rfl, hb2⟩
          obtain ⟨_, _, hb3⟩ := box2 x y hb2
          have HB3 := hid (Below.on HB.out hb3)
          clear hb2 hb3
          go_wp2
          go_roundw
          case rel => exact ⟨j + 1, by go_num, by omega, HE.out, HB3.out⟩
          case measure => simp [numOf]; omega
      · have e1 : decide ((j : Int) < n) = false := decide_eq_false (by omega)
        have HE : Hid (eqs l m = true) := by
          rw [Hid, ← hq, List.drop_eq_nil_of_le (by omega), List.drop_eq_nil_of_le (by omega)]
          rfl
        have HB := hid hb
        clear hb hq
        go_wp2
        go_ret
        rw [HE.out]
        exact ⟨rfl, HB.out⟩
  · have HE : Hid (eqs l m = false) := eqs_len (by omega)
    have e1 : ¬ ((n : Int) = n') := by omega
    clear h h' hl hl'
    go_enter Try.func73, Try.ntmps73
    go_wp2
    go_ret
    rw [HE.out]
    exact ⟨rfl, Below.refl _ _⟩

set_option maxRecDepth 100000 in
set_option maxHeartbeats 1000000 in
theorem parted_any (a : Option Addr) (n c : Nat) (l : List Rc) (w : World) (h : RdC w a n c l) (hk : ∀ x ∈ l, Ck x) :
    Calls Try.prog 62 #[.slice a n c] w fun e w' => e = .returned (.bool (prt [] l)) ∧ Below w.heap.size w w' := by
  have H := hid h
  have HK := hid hk
  clear h hk
  go_enter Try.func62, Try.ntmps62
  go_wp2
  go_loopw [0, 3] (fun v u wr => ∃ (a1 : Option Addr) (n1 c1 : Nat) (l1 : List Rc) (a2 : Option Addr) (n2 c2 : Nat) (l2 : List Rc), v = .slice a1 n1 c1 ∧ u = .slice a2 n2 c2 ∧ RdC wr a1 n1 c1 l1 ∧ RdC wr a2 n2 c2 l2 ∧ (∀ x ∈ l1, Ck x) ∧ (∀ x ∈ l2, Ck x) ∧ prt l2 l1 = prt [] l ∧ RowKit.Below w.heap.size w wr) (fun v _ _ => lenOf v)
  case atStart => exact ⟨a, n, c, l, none, 0, 0, [], rfl, rfl, H.out, RdC.nil w, HK.out, by simp, rfl, Below.refl _ _⟩
  case round =>
    obtain ⟨a1, n1, c1, l1, a2, n2, c2, l2, rfl, rfl, h1, h2, k1, k2, hp, hb⟩ := hrel
    have hn1 := h1.len
    have hs1 := h1.small
    cases l1 with
    | nil =>
      obtain rfl : n1 = 0 := hn1.symm
      have HE : Hid (prt [] l = true) := by rw [Hid, ← hp, prt]
      have HB := hid hb
      clear hb hp h1 h2 hn1
      go_wp2
      go_ret
      rw [HE.out]
      exact ⟨rfl, HB.out⟩
    | cons r t =>
      have hn0 : 0 < n1 := by rw [← hn1]; simp
      have e1 : decide (0 < (n1 : Int)) = true := decide_eq_true (by omega)
      have C1 := hid (fun u (hu : RdC u a1 n1 c1 (r :: t)) => first_any a1 n1 c1 r t u hu)
      have hbl : bl r.y t + 1 ≤ n1 := by
        rw [← hn1, List.length_cons]
        have := (List.takeWhile_sublist (p := fun a : Rc => decide (a.y = r.y)) (l := t)).length_le
        unfold bl
        omega
      have HP := hid hp
      have H1 := hid h1
      have H2 := hid h2
      have HB := hid hb
      have K1 := hid k1
      have K2 := hid k2
      clear hp h1 h2 hb k1 k2 hn1
      go_wp2_with fail
      refine (C1.out _ H1.out).mono ?_
      rintro e w2 ⟨rfl, q, rfl⟩
      clear C1
      have H1 := hid (H1.out.drewN q)
      have H2 := hid (H2.out.drewN q)
      have HB := hid (below_drewN HB.out q)
      have HT := hid (H1.out.take hbl)
      rw [band_take] at HT
      obtain ⟨b, off, rfl, _, _⟩ := H1.out.pl hn0
      have HD := hid (H1.out.drop hbl)
      rw [band_drop] at HD
      have C2 := hid (fun u (h : RdC u _ _ _ _) (h' : RdC u _ _ _ _) => touch_any a2 (some ⟨b, off, none⟩) n2 c2 (bl r.y t + 1) c1 l2 r (t.takeWhile fun a => decide (a.y = r.y)) u h h' K2.out)
      have KB : Hid (∀ x ∈ band r t, Ck x) := fun x hx => K1.out x (by rw [← band_behind]; simp [hx])
      have KD : Hid (∀ x ∈ behind r t, Ck x) := fun x hx => K1.out x (by rw [← band_behind]; simp [hx])
      generalize (wr.drewN q) = w2 at H2 HT HD HB ⊢
      have hle1 := HT.out.le
      have HPT : Hid (prt l2 (r :: t) = if tch l2 r.y = true ∧ eqs l2 (band r t) = true then false else prt (band r t) (behind r t)) := by rw [Hid, prt]
      have HC : Hid (∀ (ad : Option Addr) (u : World), (ad = some ⟨b, off + (bl r.y t + 1) * 4, none⟩ ∨ (ad = some ⟨b, off, none⟩ ∧ c1 = bl r.y t + 1)) → RowKit.Below w2.heap.size w2 u → RdC u ad (n1 - (bl r.y t + 1)) (c1 - (bl r.y t + 1)) (behind r t) ∧ RdC u (some ⟨b, off, none⟩) (bl r.y t + 1) c1 (band r t)) := by
        intro ad u had hu
        refine ⟨?_, HT.out.on hu⟩
        rcases had with rfl | ⟨rfl, hcc⟩
        · exact HD.out.on hu
        · have h1 := HD.out.len
          have h2 := HD.out.le
          have e0 : n1 - (bl r.y t + 1) = 0 := by omega
          rw [e0] at h1 ⊢
          rw [List.eq_nil_of_length_eq_zero h1, hcc, Nat.sub_self]
          exact RdC.none_of _ _ (Nat.zero_le _) (fun h => by cases h)
      have hcl : c1 ≤ 9223372036854775807 := hs1.2
      cases hq1 : tch l2 r.y
      · rw [hq1] at C2
        have HN : Hid (prt (band r t) (behind r t) = prt [] l) := by rw [Hid, ← HP.out, HPT.out, if_neg (by rw [hq1]; simp)]
        go_wp2_with fail
        refine (C2.out _ H2.out HT.out).mono ?_
        rintro e w3 ⟨rfl, q3, rfl⟩
        clear C2 H2 HT HD HP HPT
        have HB3 := hid (below_drewN HB.out q3)
        have HC3 := hid (fun ad h => HC.out ad (w2.drewN q3) h (below_drewN (Below.refl _ _) q3))
        clear HB HC
        generalize w2.drewN q3 = w4 at HB3 HC3 ⊢
        by_cases hcc : c1 = bl r.y t + 1
        · subst hcc
          have HF := hid (HC3.out _ (.inr ⟨rfl, rfl⟩))
          rw [Nat.sub_self] at HF
          clear HC3
          go_wp2
          go_quiet (fail)
          go_wp2
          go_roundw
          case rel => exact ⟨_, _, _, _, _, _, _, _, rfl, rfl, HF.out.1.drewN _, HF.out.2.drewN _, KD.out, KB.out, HN.out, below_drewN HB3.out _⟩
          case measure => simp [lenOf]; omega
        · have HF := hid (HC3.out _ (.inl rfl))
          clear HC3
          go_wp2
          go_quiet (fail)
          go_wp2
          go_roundw
          case rel => exact ⟨_, _, _, _, _, _, _, _, rfl, rfl, HF.out.1.drewN _, HF.out.2.drewN _, KD.out, KB.out, HN.out, below_drewN HB3.out _⟩
          case measure => simp [lenOf]; omega
      · rw [hq1] at C2
        have CE := hid (fun u (h : RdC u _ _ _ _) (h' : RdC u _ _ _ _) => equalfunc_any a2 (some ⟨b, off, none⟩) n2 c2 (bl r.y t + 1) c1 l2 (band r t) u h h')
        go_wp2_with fail
        refine (C2.out _ H2.out HT.out).mono ?_
        rintro e w3 ⟨rfl, q3, rfl⟩
        clear C2
        cases hq2 : eqs l2 (band r t)
        · rw [hq2] at CE
          have HN : Hid (prt (band r t) (behind r t) = prt [] l) := by rw [Hid, ← HP.out, HPT.out, if_neg (by rw [hq2]; simp)]
          go_wp2_with fail
          refine (CE.out _ (H2.out.drewN q3) (HT.out.drewN q3)).mono ?_
          rintro e w4 ⟨rfl, hb4⟩
          clear CE H2 HT HD HP HPT
          have hb4' : Below w2.heap.size w2 w4 := (below_drewN (Below.refl _ _) q3).trans hb4
          have HB3 := hid (Below.on HB.out hb4')
          have HC3 := hid (fun ad h => HC.out ad w4 h hb4')
          clear HB HC hb4 hb4'
          by_cases hcc : c1 = bl r.y t + 1
          · subst hcc
            have HF := hid (HC3.out _ (.inr ⟨rfl, rfl⟩))
            rw [Nat.sub_self] at HF
            clear HC3
            go_wp2
            go_quiet (fail)
            go_wp2
            go_roundw
            case rel => exact ⟨_, _, _, _, _, _, _, _, rfl, rfl, HF.out.1.drewN _, HF.out.2.drewN _, KD.out, KB.out, HN.out, below_drewN HB3.out _⟩
            case measure => simp [lenOf]; omega
          · have HF := hid (HC3.out _ (.inl rfl))
            clear HC3
            go_wp2
            go_quiet (fail)
            go_wp2
            go_roundw
            case rel => exact ⟨_, _, _, _, _, _, _, _, rfl, rfl, HF.out.1.drewN _, HF.out.2.drewN _, KD.out, KB.out, HN.out, below_drewN HB3.out _⟩
            case measure => simp [lenOf]; omega
        · rw [hq2] at CE
          have HN : Hid (prt [] l = false) := by rw [Hid, ← HP.out, HPT.out, if_pos ⟨hq1, hq2⟩]
          go_wp2_with fail
          refine (CE.out _ (H2.out.drewN q3) (HT.out.drewN q3)).mono ?_
          rintro e w4 ⟨rfl, hb4⟩
          have HB3 := hid (Below.on (below_drewN HB.out q3) hb4)
          clear CE H2 HT HD HP HPT HB HC hb4
          go_wp2
          go_ret
          rw [HN.out]
          exact ⟨rfl, HB3.out⟩
end Go.Proofs.Ytlkodgmnhphfcaa
