/- The document's memories: Write whatever the arguments, Read. -/
import Derived.Test.YtbolncddklgecaaDoorMemL
namespace Go.Proofs.YtbolncddklgecaaDoor
open Go Go.RowKit
variable {base : Nat} {w : World} {q : Nat} {s : Int → Mo} {d : Int → Do}

theorem inn_false {N : Nat} {j n : Int} (h : ¬ inn N j n = true) : j < 0 ∨ n < 0 ∨ (N : Int) < j ∨ (N : Int) - j < n := by
  simp only [inn, Bool.and_eq_true, decide_eq_true_eq] at h
  omega

set_option maxRecDepth 100000 in
theorem rwrite_no (hD : Dm base w q d) (hag : Ag s d) (k j : Int) (hj : -9223372036854775808 ≤ j ∧ j ≤ 9223372036854775807) (a : Option Addr) (n c : Nat) (r : Nat × List UInt8) (hq : s k = some r) (hin : j < 0 ∨ (r.2.length : Int) < j ∨ (r.2.length : Int) - j < n) :
    Calls Tryd.prog 17 #[.pointer (some ⟨q, 0, none⟩), .int .i64 k, .int .i64 j, .slice a n c] w fun e w' => e = .returned (.int .i64 8) ∧ Dnew base w q d w' d := by
  have HF := hid (dnew_same hD (Below.refl _ _))
  have HI := hid (rin_any hD hag k)
  have hk := hD.dom k (by rw [hag.isSome k, hq]; rfl)
  obtain ⟨ao, m, cm, hv, hrd, hm⟩ := hag.rd hD k
  have hlm := hrd.len
  rw [hq] at hlm
  rw [hq, Option.isSome_some] at HI
  obtain ⟨i, rfl⟩ : ∃ i : Nat, k = i := ⟨k.toNat, by omega⟩
  have c0 := hD.cl i (by omega)
  rw [hv] at c0
  have hlt := hD.lt
  rw [show r.2.length = m from hlm] at hin
  clear hD hag hq hv hrd hlm
  by_cases h1 : j < 0
  · have e1 : decide (j < 0) = true := decide_eq_true h1
    go_enter Tryd.func17, Tryd.ntmps17
    go_wp2_with fail
    refine HI.out.mono ?_
    rintro e w1 ⟨rfl, rfl⟩
    go_wp2
    go_ret
    exact ⟨rfl, HF.out⟩
  · have e1 : decide (j < 0) = false := decide_eq_false h1
    by_cases h2 : (m : Int) < j
    · have e2 : decide ((m : Int) < j) = true := decide_eq_true h2
      go_enter Tryd.func17, Tryd.ntmps17
      go_wp2_with fail
      refine HI.out.mono ?_
      rintro e w1 ⟨rfl, rfl⟩
      go_wp2
      go_ret
      exact ⟨rfl, HF.out⟩
    · have e2 : decide ((m : Int) < j) = false := decide_eq_false h2
      have e3 : decide ((m : Int) - j < n) = true := decide_eq_true (by omega)
      have e4 : -9223372036854775808 ≤ (m : Int) - j ∧ (m : Int) - j ≤ 9223372036854775807 := by omega
      go_enter Tryd.func17, Tryd.ntmps17
      go_wp2_with fail
      refine HI.out.mono ?_
      rintro e w1 ⟨rfl, rfl⟩
      go_wp2
      go_ret
      exact ⟨rfl, HF.out⟩

set_option maxRecDepth 100000 in
theorem rwrite_none (hD : Dm base w q d) (hag : Ag s d) (k j : Int) (a : Option Addr) (n c : Nat) (hq : s k = none) :
    Calls Tryd.prog 17 #[.pointer (some ⟨q, 0, none⟩), .int .i64 k, .int .i64 j, .slice a n c] w fun e w' => e = .returned (.int .i64 9) ∧ Dnew base w q d w' d := by
  have HF := hid (dnew_same hD (Below.refl _ _))
  have HI := hid (rin_any hD hag k)
  rw [hq, Option.isSome_none] at HI
  clear hD hag hq
  go_enter Tryd.func17, Tryd.ntmps17
  go_wp2_with fail
  refine HI.out.mono ?_
  rintro e w1 ⟨rfl, rfl⟩
  go_wp2
  go_ret
  exact ⟨rfl, HF.out⟩

theorem rwrite_any (hD : Dm base w q d) (hag : Ag s d) (hbase : base ≤ w.heap.size) (k j : Int) (hj : -9223372036854775808 ≤ j ∧ j ≤ 9223372036854775807) (a : Option Addr) (n c : Nat) (l : List UInt8) (hr : Rd w a n c l) :
    Calls Tryd.prog 17 #[.pointer (some ⟨q, 0, none⟩), .int .i64 k, .int .i64 j, .slice a n c] w fun e w' => e = .returned (.int .i64 (wrE (s k) j n : Nat)) ∧ ∃ d', Dnew base w q d w' d' ∧ Ag (wrS s k j l) d' := by
  have hlen := hr.len
  cases hq : s k with
  | none =>
    refine (rwrite_none hD hag k j a n c hq).mono ?_
    rintro e w' ⟨rfl, h⟩
    exact ⟨rfl, d, h, by rw [wrS, hq]; exact hag⟩
  | some r =>
    by_cases hin : inn r.2.length j n = true
    · have h3 := inn_true hin
      have hk := hD.dom k (by rw [hag.isSome k, hq]; rfl)
      obtain ⟨i, rfl⟩ : ∃ i : Nat, k = i := ⟨k.toNat, by omega⟩
      obtain ⟨j, rfl⟩ : ∃ m : Nat, j = m := ⟨j.toNat, by omega⟩
      refine (rwrite_ok hD hag hbase i j a n c l hr r hq (by omega)).mono ?_
      rintro e w' ⟨rfl, v, h⟩
      refine ⟨by rw [wrE]; simp only [hin, if_true]; rfl, _, h, ?_⟩
      rw [wrS, hq]
      simp only [hlen, hin, if_true, Int.toNat_natCast]
      exact hag.upd _ _ _ _
    · have h4 := inn_false hin
      refine (rwrite_no hD hag k j hj a n c r hq (by omega)).mono ?_
      rintro e w' ⟨rfl, h⟩
      refine ⟨by rw [wrE]; simp only [hin]; rfl, d, h, ?_⟩
      rw [wrS, hq]
      simp only [hlen, hin]
      exact hag

/-- What the document's Read answers. -/
def DRead (w : World) (m : Mo) (j n : Int) (e : Ending) (w' : World) : Prop :=
  ∃ a k c, e = .returned (.tuple #[.slice a k c, .bool (rdOk m j n)]) ∧ Below w.heap.size w w' ∧ Rd w' a k c (if rdOk m j n = true then ((by_ m).drop j.toNat).take n.toNat else []) ∧ k ≤ 65536

set_option maxRecDepth 100000 in
set_option maxHeartbeats 1000000 in
theorem rread_ok (hD : Dm base w q d) (hag : Ag s d) (i j n : Nat) (r : Nat × List UInt8) (hq : s i = some r) (hin : j + n ≤ r.2.length) :
    Calls Tryd.prog 14 #[.pointer (some ⟨q, 0, none⟩), .int .i64 i, .int .i64 j, .int .i64 n] w fun e w' => DRead w (s i) j n e w' := by
  obtain ⟨i0, hi, hz0, hz1, hz2⟩ := info_parts infoU8
  have HI := hid (rin_any hD hag i)
  have hk := hD.dom i (by rw [hag.isSome i, hq]; rfl)
  obtain ⟨ao, m, cm, hv, hrd, hm⟩ := hag.rd hD i
  rw [hq, show by_ (some r) = r.2 from rfl] at hrd
  rw [hq, Option.isSome_some] at HI
  have hlm := hrd.len
  have hcm := hrd.le
  have c0 := hD.cl i (by omega)
  rw [hv] at c0
  have hlt := hD.lt
  have hE : ∀ x v1, x.ownsRow w.heap.size 5 1 v1 (0 + n) ([] ++ bc ((r.2.drop j).take n)) → w.grownBy x (Value.ownBlock (.slice none 0 0)) → ∃ a1 c1, v1 = .slice a1 n c1 ∧ Hid (DRead w (s i) j n (.returned (.tuple #[.slice a1 n c1, .bool true])) x) := fun x v1 o1 g1 => by
    rw [Nat.zero_add, List.nil_append] at o1
    obtain ⟨a1, c1, rfl, hr1, _⟩ := rd_of_owns o1
    have e : rdOk (s i) j n = true := by rw [hq]; exact inn_nat hin
    refine ⟨a1, c1, rfl, a1, n, c1, by rw [e], (Below.refl _ _).grown g1 (Nat.le_refl _) (fun k hk => by cases hk), ?_, by omega⟩
    rw [e, if_pos rfl, hq, Int.toNat_natCast, Int.toNat_natCast]
    exact hr1
  have HE := hid hE
  have ejn : j + n - j = n := by omega
  have HS : Hid (Src Tryd.prog 1 26 (.slice (Option.map (fun x => x.add j) ao) (j + n - j) (cm - j)) n (bc ((r.2.drop j).take n)) w) := by
    rw [Hid, ejn]
    exact (rd_take (rd_dropm hrd j (by omega)) n (by omega)).src (P := Tryd.prog) Tryd.underlying26
  have HS2 : Hid (cm = j → Src Tryd.prog 1 26 (.slice ao (j + n - j) 0) n (bc ((r.2.drop j).take n)) w) := fun hc => by
    have h0 : n = 0 := by omega
    rw [ejn, h0, List.take_zero]
    exact (rd_zero w ao).src (P := Tryd.prog) Tryd.underlying26
  have e0 : decide ((n : Int) < 0) = false := decide_eq_false (by omega)
  have e1 : decide ((j : Int) < 0) = false := decide_eq_false (by omega)
  have e2 : decide ((m : Int) < j) = false := decide_eq_false (by omega)
  have e3 : decide ((m : Int) - j < n) = false := decide_eq_false (by omega)
  have hjn : j + n ≤ m := by omega
  clear hD hag hq hv hrd hE ejn
  by_cases hck : cm = j
  · have HS3 := hid (HS2.out hck)
    subst hck
    clear HS HS2
    go_enter Tryd.func14, Tryd.ntmps14
    go_wp2_with fail
    refine HI.out.mono ?_
    rintro e w1 ⟨rfl, rfl⟩
    go_wp2_with (at_builtin; refine wpList_append_own_at _ rfl (.const (.slice none 0 0)) (.tmp 56) 26 26 rfl _ 5 i0 (.int .u8 0) 1 1 Tryd.underlying26 hi hz0 hz1 hz2 rfl _ 0 [] rfl (World.ownsRow_nil _ _ _ _) _ _ _ rfl HS3.out (by simp only [maxLen]; omega) (fits1 (by omega)) (Nat.le_refl _) ?_; intro v1 w2 o1 g1 hv1; obtain ⟨a1, c1, rfl, HF⟩ := HE.out _ _ o1 g1; clear o1 g1 hv1 HE)
    go_ret2
    exact HF.out
  · clear HS2
    go_enter Tryd.func14, Tryd.ntmps14
    go_wp2_with fail
    refine HI.out.mono ?_
    rintro e w1 ⟨rfl, rfl⟩
    go_wp2_with (at_builtin; refine wpList_append_own_at _ rfl (.const (.slice none 0 0)) (.tmp 56) 26 26 rfl _ 5 i0 (.int .u8 0) 1 1 Tryd.underlying26 hi hz0 hz1 hz2 rfl _ 0 [] rfl (World.ownsRow_nil _ _ _ _) _ _ _ rfl HS.out (by simp only [maxLen]; omega) (fits1 (by omega)) (Nat.le_refl _) ?_; intro v1 w2 o1 g1 hv1; obtain ⟨a1, c1, rfl, HF⟩ := HE.out _ _ o1 g1; clear o1 g1 hv1 HE)
    go_ret2
    exact HF.out

set_option maxRecDepth 100000 in
theorem rread_no (hD : Dm base w q d) (hag : Ag s d) (k j n : Int) (hj : -9223372036854775808 ≤ j ∧ j ≤ 9223372036854775807) (hn : -9223372036854775808 ≤ n ∧ n ≤ 9223372036854775807) (hno : rdOk (s k) j n = false) :
    Calls Tryd.prog 14 #[.pointer (some ⟨q, 0, none⟩), .int .i64 k, .int .i64 j, .int .i64 n] w fun e w' => DRead w (s k) j n e w' := by
  have HF : Hid (DRead w (s k) j n (.returned (.tuple #[.slice none 0 0, .bool false])) w) := ⟨none, 0, 0, by rw [hno], Below.refl _ _, by rw [hno]; exact Rd.nil w, by omega⟩
  have HI := hid (rin_any hD hag k)
  generalize DRead w (s k) j n = RI at *
  cases hq : s k with
  | none =>
    rw [hq, Option.isSome_none] at HI
    clear hD hag hq hno
    go_enter Tryd.func14, Tryd.ntmps14
    go_wp2_with fail
    refine HI.out.mono ?_
    rintro e w1 ⟨rfl, rfl⟩
    go_wp2
    exact HF.out
  | some r =>
    have hk := hD.dom k (by rw [hag.isSome k, hq]; rfl)
    obtain ⟨ao, m, cm, hv, hrd, hm⟩ := hag.rd hD k
    have hlm := hrd.len
    rw [hq] at hlm hno
    rw [hq, Option.isSome_some] at HI
    have h4 := inn_false (Bool.eq_false_iff.1 (show inn r.2.length j n = false from hno))
    obtain ⟨i, rfl⟩ : ∃ i : Nat, k = i := ⟨k.toNat, by omega⟩
    have c0 := hD.cl i (by omega)
    rw [hv] at c0
    have hlt := hD.lt
    rw [show r.2.length = m from hlm] at h4
    clear hD hag hq hv hrd hlm hno
    by_cases h0 : n < 0
    · have e0 : decide (n < 0) = true := decide_eq_true h0
      go_enter Tryd.func14, Tryd.ntmps14
      go_wp2_with fail
      refine HI.out.mono ?_
      rintro e w1 ⟨rfl, rfl⟩
      go_wp2
      exact HF.out
    · have e0 : decide (n < 0) = false := decide_eq_false h0
      by_cases h1 : j < 0
      · have e1 : decide (j < 0) = true := decide_eq_true h1
        go_enter Tryd.func14, Tryd.ntmps14
        go_wp2_with fail
        refine HI.out.mono ?_
        rintro e w1 ⟨rfl, rfl⟩
        go_wp2
        exact HF.out
      · have e1 : decide (j < 0) = false := decide_eq_false h1
        by_cases h2 : (m : Int) < j
        · have e2 : decide ((m : Int) < j) = true := decide_eq_true h2
          go_enter Tryd.func14, Tryd.ntmps14
          go_wp2_with fail
          refine HI.out.mono ?_
          rintro e w1 ⟨rfl, rfl⟩
          go_wp2
          exact HF.out
        · have e2 : decide ((m : Int) < j) = false := decide_eq_false h2
          have e3 : decide ((m : Int) - j < n) = true := decide_eq_true (by omega)
          go_enter Tryd.func14, Tryd.ntmps14
          go_wp2_with fail
          refine HI.out.mono ?_
          rintro e w1 ⟨rfl, rfl⟩
          go_wp2
          exact HF.out

theorem rread_any (hD : Dm base w q d) (hag : Ag s d) (k j n : Int) (hj : -9223372036854775808 ≤ j ∧ j ≤ 9223372036854775807) (hn : -9223372036854775808 ≤ n ∧ n ≤ 9223372036854775807) :
    Calls Tryd.prog 14 #[.pointer (some ⟨q, 0, none⟩), .int .i64 k, .int .i64 j, .int .i64 n] w fun e w' => DRead w (s k) j n e w' := by
  cases h : rdOk (s k) j n with
  | false => exact rread_no hD hag k j n hj hn h
  | true =>
    cases hq : s k with
    | none => rw [hq] at h; cases h
    | some r =>
      rw [hq] at h
      have h3 := inn_true h
      have hk := hD.dom k (by rw [hag.isSome k, hq]; rfl)
      obtain ⟨i, rfl⟩ : ∃ i : Nat, k = i := ⟨k.toNat, by omega⟩
      obtain ⟨j, rfl⟩ : ∃ m : Nat, j = m := ⟨j.toNat, by omega⟩
      obtain ⟨n, rfl⟩ : ∃ m : Nat, n = m := ⟨n.toNat, by omega⟩
      have := rread_ok hD hag i j n r hq (by omega)
      rw [hq] at this
      exact this
end Go.Proofs.YtbolncddklgecaaDoor
