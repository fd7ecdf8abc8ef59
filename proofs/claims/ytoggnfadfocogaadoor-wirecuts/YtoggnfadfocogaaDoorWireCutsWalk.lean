/- WireCuts' walk: for every message, signature and place the law returns true; nothing that was there is turned. -/
import Derived.Test.YtoggnfadfocogaaDoorWireN
import Derived.Test.YtoggnfadfocogaaDoorWireL
import Derived.Test.YtoggnfadfocogaaDoorKindB
namespace Go.Proofs.YtoggnfadfocogaaDoor.wireCuts
open Go Go.RowKit

/-- What stays, behind every call. -/
structure Stay (w : World) (o q : Int) (a : Option Addr) (n c : Nat) (l : List AV) (es : List Addr) (u : World) : Prop where
  m0 : u.cell? ⟨w.heap.size, 0, none⟩ = some (.int .i64 o)
  m1 : u.cell? ⟨w.heap.size, 1, none⟩ = some (.int .i64 q)
  m2 : u.cell? ⟨w.heap.size, 2, none⟩ = some (.slice a n c)
  low : w.heap.size < u.heap.size
  bel : Below w.heap.size w u
  rd : RdA u a n c l
  er : Errs u gerrs es

theorem Stay.e4 {w : World} {o q : Int} {a : Option Addr} {n c : Nat} {l : List AV} {es : List Addr} {u : World} (h : Stay w o q a n c l es u) : E4 u es := E4.of h.er rfl

theorem Stay.start (w : World) (o q : Int) (a : Option Addr) (n c : Nat) (l : List AV) (es : List Addr) (hr : RdA w a n c l) (hE : Errs w gerrs es) :
    Stay w o q a n c l es (w.alloc (.cells #[.int .i64 o, .int .i64 q, .slice a n c] 24)) := by
  have hb : Below w.heap.size w (w.alloc (.cells #[.int .i64 o, .int .i64 q, .slice a n c] 24)) := (Below.refl _ _).alloc (Nat.le_refl _) _
  exact ⟨by simp, by simp, by simp, by simp, hb, hr.below hb hr.low, hE.below hb⟩

theorem Stay.on {w : World} {o q : Int} {a : Option Addr} {n c : Nat} {l : List AV} {es : List Addr} {u v : World} (h : Stay w o q a n c l es u) (hb : Below u.heap.size u v) : Stay w o q a n c l es v := by
  have hc : ∀ {b i x}, u.cell? ⟨b, i, none⟩ = some x → v.cell? ⟨b, i, none⟩ = some x := fun {b i x} hx => by
    rw [hb.cell (World.block_lt_of_cell? u _ hx)]; exact hx
  exact ⟨hc h.m0, hc h.m1, hc h.m2, Nat.lt_of_lt_of_le h.low hb.size, Below.on h.bel hb, h.rd.below hb h.rd.low, h.er.below hb⟩

/-- What is put, as a slice that can be cut. -/
theorem put_slice {base : Nat} {w : World} {o q : Int} {l : List AV} {v : Value} (h : PutIs base w 0 (putB o q l) v) : ∃ g off c, v = .slice (some ⟨g, off, none⟩) (8 + (pas l).length) c ∧ 8 + (pas l).length ≤ c ∧ Rd w (some ⟨g, off, none⟩) (8 + (pas l).length) c (putB o q l) ∧ g < w.heap.size := by
  have ho := h.1 rfl
  rw [putB_length] at ho
  obtain ⟨a, c, rfl, hr, _⟩ := rd_of_owns ho
  obtain ⟨g, off, rfl, hg, _⟩ := hr.plain (by omega)
  exact ⟨g, off, c, rfl, hr.le, hr, hg⟩

theorem region_gen {P : Program} {Q : Exit → Act → World → Prop} {a : Act} {c : Code} {B : Nat} {w w' : World} (H : ∀ X, Below B w X → c.wp P Q a X) (h : Below B w w') : c.wp P Q a w' := H w' h

/-- 'string(b[8:8+k])'. -/
theorem conv_part {w : World} {g off c : Nat} {o q : Int} {l : List AV} (hr : Rd w (some ⟨g, off, none⟩) (8 + (pas l).length) c (putB o q l)) (k : Nat) (hk : k ≤ (pas l).length) (d : Nat) :
    (convert 27 9 (.slice (some ⟨g, off + 8, none⟩) k d)).run Tryd.prog w = .ok (.string ⟨((pas l).take k).toArray⟩) w := by
  obtain ⟨g', off', h1, _, hc⟩ := hr.plain (by omega)
  obtain ⟨rfl, rfl⟩ : g = g' ∧ off = off' := by cases h1; exact ⟨rfl, rfl⟩
  have h := conv_window hc 8 k (by rw [putB_length]; omega) 0 d
  rw [putB_drop] at h
  exact h

set_option maxRecDepth 100000 in
set_option maxHeartbeats 2000000 in
theorem core (o q at_ : Int) (hat : -9223372036854775808 ≤ at_ ∧ at_ ≤ 9223372036854775807) (a : Option Addr) (n c : Nat) (s : ByteArray) (l : List AV) (w : World) (hr : RdA w a n c l) (hs : s.size ≤ maxLen) (es : List Addr) (hE : Errs w gerrs es) :
    Calls Tryd.prog 5 #[.agg #[.int .i64 o, .int .i64 q, .slice a n c], .string s, .int .i64 at_] w fun e w' => e = .returned (.bool true) ∧ Below w.heap.size w w' := by
  have hS := Stay.start w o q a n c l es hr hE
  have HF : Hid (Calls Tryd.prog 9 #[.agg #[.int .i64 o, .int .i64 q, .slice a n c], .string s] (w.alloc (.cells #[.int .i64 o, .int .i64 q, .slice a n c] 24)) fun e w' => FewRet l s e ∧ Stay w o q a n c l es w') := by
    refine (few_any o q a n c l s hs _ hS.rd).mono ?_
    rintro e w' ⟨h1, h2⟩
    exact ⟨h1, hS.on h2⟩
  have HW : Hid (∀ u, Stay w o q a n c l es u → Calls Tryd.prog 10 #[] u fun e w' => e = .returned (.bool true) ∧ Below w.heap.size w w') := fun u hu => by
    refine (awake4_any u es hu.e4).mono ?_
    rintro e w' ⟨rfl, hb⟩
    exact ⟨rfl, Below.on hu.bel hb⟩
  have HK : Hid (∀ u (r : Value) (k : Nat), Stay w o q a n c l es u → Er es r k → k ≤ 16 → Calls Tryd.prog 19 #[r] u fun e w' => e = .returned (.int .i64 k) ∧ Stay w o q a n c l es w') := fun u r k hu hr hk => by
    refine (kind_er u es hu.er r k hk hr).mono ?_
    rintro e w' ⟨rfl, hb⟩
    exact ⟨rfl, hu.on hb⟩
  have hln := hr.len
  clear hS hr hE hs
  go_enter Tryd.func5, Tryd.ntmps5
  go_wp2_with fail
  refine HF.out.mono ?_
  rintro e w1 ⟨⟨b, rfl, hf⟩, hS⟩
  have HS1 : Hid (Stay w o q a n c l es w1) := hS
  have m0 := hS.m0
  have m1 := hS.m1
  have m2 := hS.m2
  clear hS HF
  cases b with
  | false =>
    go_wp2_with fail
    refine (HW.out w1 HS1.out).mono ?_
    rintro e w99 ⟨rfl, b99⟩
    go_wp2
    go_ret
    exact ⟨rfl, b99⟩
  | true =>
    have hF := hf rfl
    clear hf
    have hF1 := hF.1
    have hF2 := hF.2.1
    have HSM : Hid (Small l) := fun x hx => by have := hF.2.2 x hx; omega
    clear hF
    have HM : Hid (Calls Tryd.prog 12 #[.agg #[.int .i64 o, .int .i64 q, .slice a n c]] w1 fun e w' => ∃ a2 c2, e = .returned (.agg #[.int .i64 o, .int .i64 q, .slice a2 n c2]) ∧ RdA w' a2 n c2 l ∧ Stay w o q a n c l es w') := by
      refine (msg_any o q a n c l w1 HS1.out.rd (by omega)).mono ?_
      rintro e w' ⟨a2, c2, rfl, hr2, hb⟩
      exact ⟨a2, c2, rfl, hr2, HS1.out.on hb⟩
    go_wp2_with fail
    refine HM.out.mono ?_
    rintro e w2 ⟨a2, c2, rfl, hr2, hS2⟩
    have HP : Hid (Calls Tryd.prog 11 #[.agg #[.int .i64 o, .int .i64 q, .slice a2 n c2], .string s] w2 fun e w' => ∃ v r, e = .returned (.tuple #[v, r]) ∧ Er es r (putE o q l s.data.toList) ∧ PutIs w2.heap.size w' (putE o q l s.data.toList) (putB o q l) v ∧ Stay w o q a n c l es w') := by
      refine (Put_any o q a2 n c2 l s w2 hr2 HSM.out (by omega) es hS2.e4).mono ?_
      rintro e w' ⟨v, r, rfl, h1, h2, h3⟩
      exact ⟨v, r, rfl, h1, h2, hS2.on h3⟩
    clear HM hr2 hS2 HS1 m0 m1 m2 HSM
    go_wp2_with fail
    refine HP.out.mono ?_
    rintro e w3 ⟨v3, r3, rfl, he3, hp3, hS3⟩
    clear HP
    by_cases hP : putE o q l s.data.toList = 0
    · rw [hP] at he3 hp3
      obtain rfl := he3.nil
      obtain ⟨g, off, c3, rfl, hc3, hr3, hg3⟩ := put_slice hp3
      have h4 := pas_four l
      have hpl := (putE_zero hP).2.1
      have HS3 : Hid (Stay w o q a n c l es w3) := hS3
      by_cases hM0 : (pas l).length = 0
      · have e9 : decide ((8 : Int) + (pas l).length < 9) = true := decide_eq_true (by omega)
        clear he3 hp3 hr3 hS3 hP
        generalize (pas l).length = M at *
        go_wp2_with fail
        refine (HW.out w3 HS3.out).mono ?_
        rintro e w99 ⟨rfl, b99⟩
        go_wp2
        go_ret
        exact ⟨rfl, b99⟩
      · have e9 : decide ((8 : Int) + (pas l).length < 9) = false := decide_eq_false (by omega)
        have HPl : Hid (∀ u, Calls Tryd.prog 23 #[.int .i64 at_, .int .i64 ((8 + ((pas l).length : Int) - 8) / 4)] u fun e w' => e = .returned (.int .i64 (plc at_ ((pas l).length / 4) : Nat)) ∧ w' = u) := fun u => by
          have := place_any at_ ((pas l).length / 4) hat (by omega) (by omega) u
          rw [show (((pas l).length / 4 : Nat) : Int) = (8 + ((pas l).length : Int) - 8) / 4 by omega] at this
          exact this
        have hk := plc_lt at_ ((pas l).length / 4) (by omega)
        generalize hkk : plc at_ ((pas l).length / 4) = k at *
        have hcut := put_cut hP (4 * k) (by omega)
        have hmore := put_more hP
        have hcv1 := conv_part hr3 (4 * k) (by omega)
        have hcv2 := conv_part hr3 (pas l).length (Nat.le_refl _)
        rw [List.take_length] at hcv2
        have m0 := hS3.m0
        have m1 := hS3.m1
        have hlow := hS3.low
        have HR3 : Hid (Rd w3 (some ⟨g, off, none⟩) (8 + (pas l).length) c3 (putB o q l)) := hr3
        have HCM : Hid (gotE o q ((pas l).take (4 * k)) s.data.toList = 2 ∧ gotE o q (pas l ++ [0, 0, 0, 0]) s.data.toList = 3) := ⟨hcut, hmore⟩
        clear he3 hp3 hS3 hP hkk hr3 hcut hmore
        have HC1 : Hid (∀ u, Below w3.heap.size w3 u → Calls Tryd.prog 14 #[.agg #[.int .i64 o, .int .i64 q, .string ⟨((pas l).take (4 * k)).toArray⟩], .string s] u fun e w' => ∃ a5 c5 r, e = .returned (.tuple #[.agg #[.int .i64 0, .int .i64 0, .slice a5 0 c5], r]) ∧ Er es r 2 ∧ Below u.heap.size u w') := fun u hu => by
          refine (Get_any o q ⟨((pas l).take (4 * k)).toArray⟩ s (by show ((pas l).take (4 * k)).length ≤ _; rw [List.length_take]; omega) (by omega) u es (HS3.out.on hu).e4).mono ?_
          rintro e w' ⟨v, r, rfl, h1, h2, h3⟩
          have f1 : gotE o q (ByteArray.mk ((pas l).take (4 * k)).toArray).data.toList s.data.toList = 2 := HCM.out.1
          rw [f1] at h1
          obtain ⟨a5, n5, c5, rfl, hr5, _, _⟩ := h2
          rw [gotL, if_neg (by rw [f1]; decide)] at hr5
          rw [gotO, gotQ, if_neg (by rw [f1]; decide), if_neg (by rw [f1]; decide)]
          obtain rfl : n5 = 0 := hr5.len.symm
          exact ⟨a5, c5, r, rfl, h1, h3⟩
        have HC2 : Hid (∀ u, Below w3.heap.size w3 u → Calls Tryd.prog 14 #[.agg #[.int .i64 o, .int .i64 q, .string (⟨(pas l).toArray⟩ ++ ⟨#[0, 0, 0, 0]⟩)], .string s] u fun e w' => ∃ a5 c5 r, e = .returned (.tuple #[.agg #[.int .i64 0, .int .i64 0, .slice a5 0 c5], r]) ∧ Er es r 3 ∧ Below u.heap.size u w') := fun u hu => by
          have hb : ((⟨(pas l).toArray⟩ : ByteArray) ++ ⟨#[0, 0, 0, 0]⟩).data.toList = pas l ++ [0, 0, 0, 0] := by simp
          have hz : ((⟨(pas l).toArray⟩ : ByteArray) ++ ⟨#[0, 0, 0, 0]⟩).size ≤ 1000000 := by rw [← size_toList, hb, List.length_append]; simp; omega
          refine (Get_any o q _ s hz (by omega) u es (HS3.out.on hu).e4).mono ?_
          rintro e w' ⟨v, r, rfl, h1, h2, h3⟩
          have f1 : gotE o q ((⟨(pas l).toArray⟩ : ByteArray) ++ ⟨#[0, 0, 0, 0]⟩).data.toList s.data.toList = 3 := by rw [hb]; exact HCM.out.2
          rw [f1] at h1
          obtain ⟨a5, n5, c5, rfl, hr5, _, _⟩ := h2
          rw [gotL, if_neg (by rw [f1]; decide)] at hr5
          rw [gotO, gotQ, if_neg (by rw [f1]; decide), if_neg (by rw [f1]; decide)]
          obtain rfl : n5 = 0 := hr5.len.symm
          exact ⟨a5, c5, r, rfl, h1, h3⟩
        have tm0 : ∀ u, Below w3.heap.size w3 u → u.cell? ⟨w.heap.size, 0, none⟩ = some (.int .i64 o) := fun u hu => (HS3.out.on hu).m0
        have tm1 : ∀ u, Below w3.heap.size w3 u → u.cell? ⟨w.heap.size, 1, none⟩ = some (.int .i64 q) := fun u hu => (HS3.out.on hu).m1
        have tc1 : ∀ u, Below w3.heap.size w3 u → ∀ d, (convert 27 9 (.slice (some ⟨g, off + 8, none⟩) (4 * k) d)).run Tryd.prog u = .ok (.string ⟨((pas l).take (4 * k)).toArray⟩) u := fun u hu d => conv_part (HR3.out.below hu (rd_low HR3.out)) (4 * k) (by omega) d
        have tc2 : ∀ u, Below w3.heap.size w3 u → ∀ d, (convert 27 9 (.slice (some ⟨g, off + 8, none⟩) (pas l).length d)).run Tryd.prog u = .ok (.string ⟨(pas l).toArray⟩) u := fun u hu d => by
          have := conv_part (HR3.out.below hu (rd_low HR3.out)) (pas l).length (Nat.le_refl _) d
          rw [List.take_length] at this
          exact this
        have hc8 : ¬ c3 = 8 := by omega
        have hpz : (⟨(pas l).toArray⟩ : ByteArray).size = (pas l).length := List.size_toArray
        clear HR3 HCM hcv1 hcv2
        generalize hMM : (pas l).length = M at *
        clear hMM
        generalize (⟨((pas l).take (4 * k)).toArray⟩ : ByteArray) = B1 at *
        generalize (⟨(pas l).toArray⟩ : ByteArray) = B2 at *
        go_wp2_with fail
        refine (HPl.out _).mono ?_
        rintro e w4 ⟨rfl, hw4⟩
        subst hw4
        clear HPl
        go_wp2_with fail
        have b3 : Below w4.heap.size w4 w4 := Below.refl _ _
        have s1 : (0 : Int) ≤ 8 + 4 * (k : Int) := by omega
        have s2 : 8 + 4 * (k : Int) ≤ c3 := by omega
        have s3 : (8 : Int) ≤ max (8 + 4 * (k : Int)) 0 := by omega
        have s4 : (8 + 4 * (k : Int)).toNat - 8 = 4 * k := by omega
        have s5 : (8 : Int) ≤ 8 + (M : Int) := by omega
        have s6 : ¬ 9223372036854775807 < M + 4 := by omega
        refine wp_region_held_drew (S := fun x => Below w4.heap.size w4 x) (by kernel_rfl) b3.drew (fun hHeld => ?_)
        have hHeld : Below w4.heap.size w4 w4.drew := hHeld
        refine wpAnyH_take (i := 0) (v := ?_) rfl (by kernel_rfl) (by kernel_rfl) (by kernel_rfl) (fun _ _ _ h => h) (Or.inl ⟨by kernel_rfl, ?hy0⟩) (by assumption) ?_
        case hy0 => (intro w hSw; (try dsimp only at hSw); go_simp; try with_reducible rfl)
        try simp only [Act.put, List.getElem_toArray, List.getElem_cons_zero, List.setIfInBounds_toArray, List.set_cons_zero, List.set_cons_succ]
        refine wpAnyH_take (i := 1) (v := ?_) rfl (by kernel_rfl) (by kernel_rfl) (by kernel_rfl) (fun _ _ _ h => h) (Or.inl ⟨by kernel_rfl, ?hy1⟩) (by assumption) ?_
        case hy1 => (intro w hSw; (try dsimp only at hSw); go_simp; try with_reducible rfl)
        try simp only [Act.put, List.getElem_toArray, List.getElem_cons_zero, List.getElem_cons_succ, List.setIfInBounds_toArray, List.set_cons_zero, List.set_cons_succ]
        refine wpAnyH_take (i := 2) (v := ?_) rfl (by kernel_rfl) (by kernel_rfl) (by kernel_rfl) (fun _ _ _ h => h) (Or.inl ⟨by kernel_rfl, ?hy2⟩) (by assumption) ?_
        case hy2 => (intro w hSw; (try dsimp only at hSw); go_simp; try with_reducible rfl)
        try simp only [Act.put, List.getElem_toArray, List.getElem_cons_zero, List.getElem_cons_succ, List.setIfInBounds_toArray, List.set_cons_zero, List.set_cons_succ]
        refine wpAnyH_take (i := 3) (v := ?_) rfl (by kernel_rfl) (by kernel_rfl) (by kernel_rfl) (fun _ _ _ h => h) (Or.inl ⟨by kernel_rfl, ?hy3⟩) (by assumption) ?_
        case hy3 => (intro w hSw; (try dsimp only at hSw); go_simp; try with_reducible rfl)
        try simp only [Act.put, List.getElem_toArray, List.getElem_cons_zero, List.getElem_cons_succ, List.setIfInBounds_toArray, List.set_cons_zero, List.set_cons_succ]
        refine wpAnyH_take (i := 4) (v := ?_) rfl (by kernel_rfl) (by kernel_rfl) (by kernel_rfl) (fun _ _ _ h => h) (Or.inl ⟨by kernel_rfl, ?hy4⟩) (by assumption) ?_
        case hy4 => (intro w hSw; (try dsimp only at hSw); go_simp; try with_reducible rfl)
        try simp only [Act.put, List.getElem_toArray, List.getElem_cons_zero, List.getElem_cons_succ, List.setIfInBounds_toArray, List.set_cons_zero, List.set_cons_succ]
        refine wpAnyH_take (i := 5) (v := ?_) rfl (by kernel_rfl) (by kernel_rfl) (by kernel_rfl) (fun _ _ _ h => h) (Or.inl ⟨by kernel_rfl, ?hy5⟩) (by assumption) ?_
        case hy5 => (intro w hSw; (try dsimp only at hSw); go_simp; try with_reducible rfl)
        try simp only [Act.put, List.getElem_toArray, List.getElem_cons_zero, List.getElem_cons_succ, List.setIfInBounds_toArray, List.set_cons_zero, List.set_cons_succ]
        refine wpAnyH_take (i := 6) (v := ?_) rfl (by kernel_rfl) (by kernel_rfl) (by kernel_rfl) (fun _ _ _ h => h) (Or.inl ⟨by kernel_rfl, ?hy6⟩) (by assumption) ?_
        case hy6 => (intro w hSw; (try dsimp only at hSw); go_simp; try with_reducible rfl)
        try simp only [Act.put, List.getElem_toArray, List.getElem_cons_zero, List.getElem_cons_succ, List.setIfInBounds_toArray, List.set_cons_zero, List.set_cons_succ]
        refine wpAnyH_take (i := 7) (v := ?_) rfl (by kernel_rfl) (by kernel_rfl) (by kernel_rfl) (fun _ _ _ h => h) (Or.inl ⟨by kernel_rfl, ?hy7⟩) (by assumption) ?_
        case hy7 => (intro w hSw; (try dsimp only at hSw); go_simp; try with_reducible rfl)
        try simp only [Act.put, List.getElem_toArray, List.getElem_cons_zero, List.getElem_cons_succ, List.setIfInBounds_toArray, List.set_cons_zero, List.set_cons_succ]
        refine wpAnyH_take (i := 8) (v := ?_) rfl (by kernel_rfl) (by kernel_rfl) (by kernel_rfl) (fun _ _ _ h => h) (Or.inl ⟨by kernel_rfl, ?hy8⟩) (by assumption) ?_
        case hy8 => (intro w hSw; (try dsimp only at hSw); go_simp; try with_reducible rfl)
        try simp only [Act.put, List.getElem_toArray, List.getElem_cons_zero, List.getElem_cons_succ, List.setIfInBounds_toArray, List.set_cons_zero, List.set_cons_succ]
        refine wpAnyH_take (i := 9) (v := ?_) rfl (by kernel_rfl) (by kernel_rfl) (by kernel_rfl) (fun _ _ _ h => h) (Or.inl ⟨by kernel_rfl, ?hy9⟩) (by assumption) ?_
        case hy9 => (intro w hSw; (try dsimp only at hSw); go_simp; try with_reducible rfl)
        try simp only [Act.put, List.getElem_toArray, List.getElem_cons_zero, List.getElem_cons_succ, List.setIfInBounds_toArray, List.set_cons_zero, List.set_cons_succ]
        refine wpAnyH_ready (rs := [10, 14]) (by kernel_rfl) (by simp) ?_
        refine AllReadyH.cons rfl (fun K hK => ?_) (AllReadyH.cons rfl (fun K hK => ?_) AllReadyH.nil)
        · go_simp
          go_wp2_with fail
          refine (HC1.out _ hHeld).mono ?_
          rintro e uA ⟨a5, c5, r1, rfl, he1, hb⟩
          have hSA : Below w4.heap.size w4 uA := Below.on hHeld hb
          refine hK.out _ _ hSA (fun _ => ?_)
          clear hK K
          refine wpAnyH_take (i := 11) (v := ?_) rfl (by kernel_rfl) (by kernel_rfl) (by kernel_rfl) (fun _ _ _ h => h) (Or.inl ⟨by kernel_rfl, ?hy11⟩) (by assumption) ?_
          case hy11 => (intro w hSw; (try dsimp only at hSw); go_simp; try with_reducible rfl)
          try simp only [Act.put, List.getElem_toArray, List.getElem_cons_zero, List.getElem_cons_succ, List.setIfInBounds_toArray, List.set_cons_zero, List.set_cons_succ]
          refine wpAnyH_take (i := 12) (v := ?_) rfl (by kernel_rfl) (by kernel_rfl) (by kernel_rfl) (fun _ _ _ h => h) (Or.inl ⟨by kernel_rfl, ?hy12⟩) (by assumption) ?_
          case hy12 => (intro w hSw; (try dsimp only at hSw); go_simp; try with_reducible rfl)
          try simp only [Act.put, List.getElem_toArray, List.getElem_cons_zero, List.getElem_cons_succ, List.setIfInBounds_toArray, List.set_cons_zero, List.set_cons_succ]
          refine wpAnyH_take (i := 13) (v := ?_) rfl (by kernel_rfl) (by kernel_rfl) (by kernel_rfl) (fun _ _ _ h => h) (Or.inl ⟨by kernel_rfl, ?hy13⟩) (by assumption) ?_
          case hy13 => (intro w hSw; (try dsimp only at hSw); go_simp; try with_reducible rfl)
          try simp only [Act.put, List.getElem_toArray, List.getElem_cons_zero, List.getElem_cons_succ, List.setIfInBounds_toArray, List.set_cons_zero, List.set_cons_succ]
          refine wpAnyH_ready (rs := [14]) (by kernel_rfl) (by simp) ?_
          refine AllReadyH.cons rfl (fun K hK => ?_) AllReadyH.nil
          go_simp
          refine hK.out _ _ (hSA.alloc hSA.size _) (fun _ => ?_)
          clear hK K
          refine wpAnyH_ready (rs := [15]) (by kernel_rfl) (by simp) ?_
          refine AllReadyH.cons rfl (fun K hK => ?_) AllReadyH.nil
          go_simp
          refine hK.out _ _ (hSA.alloc hSA.size _) (fun _ => ?_)
          clear hK K
          have hX1 : Below w4.heap.size w4 (uA.alloc (.cells #[.int .i64 0, .int .i64 0, .slice a5 0 c5] 24)) := hSA.alloc hSA.size _
          refine wpAnyH_take (i := 16) (v := ?_) rfl (by kernel_rfl) (by kernel_rfl) (by kernel_rfl) (fun _ _ _ h => h) (Or.inl ⟨by kernel_rfl, ?hy16⟩) (by assumption) ?_
          case hy16 => (intro w hSw; (try dsimp only at hSw); go_simp; try with_reducible rfl)
          try simp only [Act.put, List.getElem_toArray, List.getElem_cons_zero, List.getElem_cons_succ, List.setIfInBounds_toArray, List.set_cons_zero, List.set_cons_succ]
          refine wpAnyH_done (by kernel_rfl) ?_ _
          have HX1 : Hid (Er es r1 2) := he1
          clear hHeld hSA hb he1
          go_wp2_with fail
          refine region_gen (fun X bX => ?_) hX1
          clear hX1
          refine wp_region_held_drew (S := fun x => Below w4.heap.size w4 x) (by kernel_rfl) bX.drew (fun hHeld => ?_)
          have hHeld : Below w4.heap.size w4 X.drew := hHeld
          refine wpAnyH_take (i := 0) (v := ?_) rfl (by kernel_rfl) (by kernel_rfl) (by kernel_rfl) (fun _ _ _ h => h) (Or.inl ⟨by kernel_rfl, ?hy0⟩) (by assumption) ?_
          case hy0 => (intro w hSw; (try dsimp only at hSw); go_simp; try with_reducible rfl)
          try simp only [Act.put, List.getElem_toArray, List.getElem_cons_zero, List.setIfInBounds_toArray, List.set_cons_zero, List.set_cons_succ]
          refine wpAnyH_take (i := 1) (v := ?_) rfl (by kernel_rfl) (by kernel_rfl) (by kernel_rfl) (fun _ _ _ h => h) (Or.inl ⟨by kernel_rfl, ?hy1⟩) (by assumption) ?_
          case hy1 => (intro w hSw; (try dsimp only at hSw); go_simp; try with_reducible rfl)
          try simp only [Act.put, List.getElem_toArray, List.getElem_cons_zero, List.getElem_cons_succ, List.setIfInBounds_toArray, List.set_cons_zero, List.set_cons_succ]
          refine wpAnyH_take (i := 2) (v := ?_) rfl (by kernel_rfl) (by kernel_rfl) (by kernel_rfl) (fun _ _ _ h => h) (Or.inl ⟨by kernel_rfl, ?hy2⟩) (by assumption) ?_
          case hy2 => (intro w hSw; (try dsimp only at hSw); go_simp; try with_reducible rfl)
          try simp only [Act.put, List.getElem_toArray, List.getElem_cons_zero, List.getElem_cons_succ, List.setIfInBounds_toArray, List.set_cons_zero, List.set_cons_succ]
          refine wpAnyH_take (i := 3) (v := ?_) rfl (by kernel_rfl) (by kernel_rfl) (by kernel_rfl) (fun _ _ _ h => h) (Or.inl ⟨by kernel_rfl, ?hy3⟩) (by assumption) ?_
          case hy3 => (intro w hSw; (try dsimp only at hSw); go_simp; try with_reducible rfl)
          try simp only [Act.put, List.getElem_toArray, List.getElem_cons_zero, List.getElem_cons_succ, List.setIfInBounds_toArray, List.set_cons_zero, List.set_cons_succ]
          refine wpAnyH_take (i := 4) (v := ?_) rfl (by kernel_rfl) (by kernel_rfl) (by kernel_rfl) (fun _ _ _ h => h) (Or.inl ⟨by kernel_rfl, ?hy4⟩) (by assumption) ?_
          case hy4 => (intro w hSw; (try dsimp only at hSw); go_simp; try with_reducible rfl)
          try simp only [Act.put, List.getElem_toArray, List.getElem_cons_zero, List.getElem_cons_succ, List.setIfInBounds_toArray, List.set_cons_zero, List.set_cons_succ]
          refine wpAnyH_take (i := 5) (v := ?_) rfl (by kernel_rfl) (by kernel_rfl) (by kernel_rfl) (fun _ _ _ h => h) (Or.inl ⟨by kernel_rfl, ?hy5⟩) (by assumption) ?_
          case hy5 => (intro w hSw; (try dsimp only at hSw); go_simp; try with_reducible rfl)
          try simp only [Act.put, List.getElem_toArray, List.getElem_cons_zero, List.getElem_cons_succ, List.setIfInBounds_toArray, List.set_cons_zero, List.set_cons_succ]
          refine wpAnyH_take (i := 6) (v := ?_) rfl (by kernel_rfl) (by kernel_rfl) (by kernel_rfl) (fun _ _ _ h => h) (Or.inl ⟨by kernel_rfl, ?hy6⟩) (by assumption) ?_
          case hy6 => (intro w hSw; (try dsimp only at hSw); go_simp; try with_reducible rfl)
          try simp only [Act.put, List.getElem_toArray, List.getElem_cons_zero, List.getElem_cons_succ, List.setIfInBounds_toArray, List.set_cons_zero, List.set_cons_succ]
          refine wpAnyH_take (i := 7) (v := ?_) rfl (by kernel_rfl) (by kernel_rfl) (by kernel_rfl) (fun _ _ _ h => h) (Or.inl ⟨by kernel_rfl, ?hy7⟩) (by assumption) ?_
          case hy7 => (intro w hSw; (try dsimp only at hSw); go_simp; try with_reducible rfl)
          try simp only [Act.put, List.getElem_toArray, List.getElem_cons_zero, List.getElem_cons_succ, List.setIfInBounds_toArray, List.set_cons_zero, List.set_cons_succ]
          refine wpAnyH_take (i := 8) (v := ?_) rfl (by kernel_rfl) (by kernel_rfl) (by kernel_rfl) (fun _ _ _ h => h) (Or.inl ⟨by kernel_rfl, ?hy8⟩) (by assumption) ?_
          case hy8 => (intro w hSw; (try dsimp only at hSw); go_simp; try with_reducible rfl)
          try simp only [Act.put, List.getElem_toArray, List.getElem_cons_zero, List.getElem_cons_succ, List.setIfInBounds_toArray, List.set_cons_zero, List.set_cons_succ]
          refine wpAnyH_take (i := 9) (v := ?_) rfl (by kernel_rfl) (by kernel_rfl) (by kernel_rfl) (fun _ _ _ h => h) (Or.inl ⟨by kernel_rfl, ?hy9⟩) (by assumption) ?_
          case hy9 => (intro w hSw; (try dsimp only at hSw); go_simp; try with_reducible rfl)
          try simp only [Act.put, List.getElem_toArray, List.getElem_cons_zero, List.getElem_cons_succ, List.setIfInBounds_toArray, List.set_cons_zero, List.set_cons_succ]
          refine wpAnyH_ready (rs := [10, 14]) (by kernel_rfl) (by simp) ?_
          refine AllReadyH.cons rfl (fun K hK => ?_) (AllReadyH.cons rfl (fun K hK => ?_) AllReadyH.nil)
          · go_simp
            go_wp2_with fail
            refine (HC2.out _ hHeld).mono ?_
            rintro e uA ⟨a5, c5, r2, rfl, he2, hb⟩
            have hSA : Below w4.heap.size w4 uA := Below.on hHeld hb
            refine hK.out _ _ hSA (fun _ => ?_)
            clear hK K
            refine wpAnyH_take (i := 11) (v := ?_) rfl (by kernel_rfl) (by kernel_rfl) (by kernel_rfl) (fun _ _ _ h => h) (Or.inl ⟨by kernel_rfl, ?hy11⟩) (by assumption) ?_
            case hy11 => (intro w hSw; (try dsimp only at hSw); go_simp; try with_reducible rfl)
            try simp only [Act.put, List.getElem_toArray, List.getElem_cons_zero, List.getElem_cons_succ, List.setIfInBounds_toArray, List.set_cons_zero, List.set_cons_succ]
            refine wpAnyH_take (i := 12) (v := ?_) rfl (by kernel_rfl) (by kernel_rfl) (by kernel_rfl) (fun _ _ _ h => h) (Or.inl ⟨by kernel_rfl, ?hy12⟩) (by assumption) ?_
            case hy12 => (intro w hSw; (try dsimp only at hSw); go_simp; try with_reducible rfl)
            try simp only [Act.put, List.getElem_toArray, List.getElem_cons_zero, List.getElem_cons_succ, List.setIfInBounds_toArray, List.set_cons_zero, List.set_cons_succ]
            refine wpAnyH_take (i := 13) (v := ?_) rfl (by kernel_rfl) (by kernel_rfl) (by kernel_rfl) (fun _ _ _ h => h) (Or.inl ⟨by kernel_rfl, ?hy13⟩) (by assumption) ?_
            case hy13 => (intro w hSw; (try dsimp only at hSw); go_simp; try with_reducible rfl)
            try simp only [Act.put, List.getElem_toArray, List.getElem_cons_zero, List.getElem_cons_succ, List.setIfInBounds_toArray, List.set_cons_zero, List.set_cons_succ]
            refine wpAnyH_ready (rs := [14]) (by kernel_rfl) (by simp) ?_
            refine AllReadyH.cons rfl (fun K hK => ?_) AllReadyH.nil
            go_simp
            refine hK.out _ _ (hSA.alloc hSA.size _) (fun _ => ?_)
            clear hK K
            refine wpAnyH_ready (rs := [15]) (by kernel_rfl) (by simp) ?_
            refine AllReadyH.cons rfl (fun K hK => ?_) AllReadyH.nil
            go_simp
            refine hK.out _ _ (hSA.alloc hSA.size _) (fun _ => ?_)
            clear hK K
            have hX2 : Below w4.heap.size w4 (uA.alloc (.cells #[.int .i64 0, .int .i64 0, .slice a5 0 c5] 24)) := hSA.alloc hSA.size _
            refine wpAnyH_take (i := 16) (v := ?_) rfl (by kernel_rfl) (by kernel_rfl) (by kernel_rfl) (fun _ _ _ h => h) (Or.inl ⟨by kernel_rfl, ?hy16⟩) (by assumption) ?_
            case hy16 => (intro w hSw; (try dsimp only at hSw); go_simp; try with_reducible rfl)
            try simp only [Act.put, List.getElem_toArray, List.getElem_cons_zero, List.getElem_cons_succ, List.setIfInBounds_toArray, List.set_cons_zero, List.set_cons_succ]
            refine wpAnyH_done (by kernel_rfl) ?_ _
            have HX2 : Hid (Er es r2 3) := he2
            clear hHeld hSA hb he2
            go_wp2_with fail
            refine (HK.out _ r1 2 (HS3.out.on hX2) HX1.out (by decide)).mono ?_
            rintro e w8 ⟨rfl, hS8⟩
            go_wp2_with fail
            refine (HK.out _ r2 3 hS8 HX2.out (by decide)).mono ?_
            rintro e w9 ⟨rfl, hS9⟩
            go_wp2_with fail
            refine (HW.out _ hS9).mono ?_
            rintro e w99 ⟨rfl, b99⟩
            go_wp2
            go_ret
            exact ⟨rfl, b99⟩
          · go_simp
            have hSB : Below w4.heap.size w4 (X.alloc (.cells #[.int .i64 0, .int .i64 0, .slice none 0 0] 24)).drew := (bX.alloc bX.size _).drew
            refine hK.out _ _ hSB (fun _ => ?_)
            clear hK K
            refine wpAnyH_ready (rs := [10]) (by kernel_rfl) (by simp) ?_
            refine AllReadyH.cons rfl (fun K hK => ?_) AllReadyH.nil
            go_simp
            go_wp2_with fail
            refine (HC2.out _ hSB).mono ?_
            rintro e uB ⟨a5, c5, r2, rfl, he2, hb⟩
            have hSC : Below w4.heap.size w4 uB := Below.on hSB hb
            have hz : uB.heap[X.heap.size]? = some (.cells #[.int .i64 0, .int .i64 0, .slice none 0 0] 24 (0, 0)) := by
              rw [hb.block _ (by simp)]
              exact heap_alloc_new X _
            have y0 : uB.cell? ⟨X.heap.size, 0, none⟩ = some (.int .i64 0) := by rw [World.cell?, hz]; rfl
            have y1 : uB.cell? ⟨X.heap.size, 1, none⟩ = some (.int .i64 0) := by rw [World.cell?, hz]; rfl
            have y2 : uB.cell? ⟨X.heap.size, 2, none⟩ = some (.slice none 0 0) := by rw [World.cell?, hz]; rfl
            have yf : ∀ k, uB.frozen? ⟨X.heap.size, k, none⟩ = false := Lib.frozen_of_heap hz
            refine hK.out _ _ hSC (fun _ => ?_)
            clear hK K
            refine wpAnyH_take (i := 11) (v := ?_) rfl (by kernel_rfl) (by kernel_rfl) (by kernel_rfl) (fun _ _ _ h => h) (Or.inl ⟨by kernel_rfl, ?hy11⟩) (by assumption) ?_
            case hy11 => (intro w hSw; (try dsimp only at hSw); go_simp; try with_reducible rfl)
            try simp only [Act.put, List.getElem_toArray, List.getElem_cons_zero, List.getElem_cons_succ, List.setIfInBounds_toArray, List.set_cons_zero, List.set_cons_succ]
            refine wpAnyH_take (i := 12) (v := ?_) rfl (by kernel_rfl) (by kernel_rfl) (by kernel_rfl) (fun _ _ _ h => h) (Or.inl ⟨by kernel_rfl, ?hy12⟩) (by assumption) ?_
            case hy12 => (intro w hSw; (try dsimp only at hSw); go_simp; try with_reducible rfl)
            try simp only [Act.put, List.getElem_toArray, List.getElem_cons_zero, List.getElem_cons_succ, List.setIfInBounds_toArray, List.set_cons_zero, List.set_cons_succ]
            refine wpAnyH_take (i := 13) (v := ?_) rfl (by kernel_rfl) (by kernel_rfl) (by kernel_rfl) (fun _ _ _ h => h) (Or.inl ⟨by kernel_rfl, ?hy13⟩) (by assumption) ?_
            case hy13 => (intro w hSw; (try dsimp only at hSw); go_simp; try with_reducible rfl)
            try simp only [Act.put, List.getElem_toArray, List.getElem_cons_zero, List.getElem_cons_succ, List.setIfInBounds_toArray, List.set_cons_zero, List.set_cons_succ]
            refine wpAnyH_ready (rs := [15]) (by kernel_rfl) (by simp) ?_
            refine AllReadyH.cons rfl (fun K hK => ?_) AllReadyH.nil
            go_simp
            have hX2 : Below w4.heap.size w4 (((uB.setCell ⟨X.heap.size, 0, none⟩ (.int .i64 0)).setCell ⟨X.heap.size, 1, none⟩ (.int .i64 0)).setCell ⟨X.heap.size, 2, none⟩ (.slice a5 0 c5)) := ((hSC.setCell (p := ⟨X.heap.size, 0, none⟩) bX.size _).setCell (p := ⟨X.heap.size, 1, none⟩) bX.size _).setCell (p := ⟨X.heap.size, 2, none⟩) bX.size _
            refine hK.out _ _ hX2 (fun _ => ?_)
            clear hK K
            refine wpAnyH_take (i := 16) (v := ?_) rfl (by kernel_rfl) (by kernel_rfl) (by kernel_rfl) (fun _ _ _ h => h) (Or.inl ⟨by kernel_rfl, ?hy16⟩) (by assumption) ?_
            case hy16 => (intro w hSw; (try dsimp only at hSw); go_simp; try with_reducible rfl)
            try simp only [Act.put, List.getElem_toArray, List.getElem_cons_zero, List.getElem_cons_succ, List.setIfInBounds_toArray, List.set_cons_zero, List.set_cons_succ]
            refine wpAnyH_done (by kernel_rfl) ?_ _
            have HX2 : Hid (Er es r2 3) := he2
            clear hHeld hSB hSC hz y0 y1 y2 yf hb he2
            go_wp2_with fail
            refine (HK.out _ r1 2 (HS3.out.on hX2) HX1.out (by decide)).mono ?_
            rintro e w8 ⟨rfl, hS8⟩
            go_wp2_with fail
            refine (HK.out _ r2 3 hS8 HX2.out (by decide)).mono ?_
            rintro e w9 ⟨rfl, hS9⟩
            go_wp2_with fail
            refine (HW.out _ hS9).mono ?_
            rintro e w99 ⟨rfl, b99⟩
            go_wp2
            go_ret
            exact ⟨rfl, b99⟩
        · go_simp
          have hSB : Below w4.heap.size w4 (w4.alloc (.cells #[.int .i64 0, .int .i64 0, .slice none 0 0] 24)).drew := (b3.alloc b3.size _).drew
          refine hK.out _ _ hSB (fun _ => ?_)
          clear hK K
          refine wpAnyH_ready (rs := [10]) (by kernel_rfl) (by simp) ?_
          refine AllReadyH.cons rfl (fun K hK => ?_) AllReadyH.nil
          go_simp
          go_wp2_with fail
          refine (HC1.out _ hSB).mono ?_
          rintro e uB ⟨a5, c5, r1, rfl, he1, hb⟩
          have hSC : Below w4.heap.size w4 uB := Below.on hSB hb
          have hz : uB.heap[w4.heap.size]? = some (.cells #[.int .i64 0, .int .i64 0, .slice none 0 0] 24 (0, 0)) := by
            rw [hb.block _ (by simp)]
            exact heap_alloc_new w4 _
          have y0 : uB.cell? ⟨w4.heap.size, 0, none⟩ = some (.int .i64 0) := by rw [World.cell?, hz]; rfl
          have y1 : uB.cell? ⟨w4.heap.size, 1, none⟩ = some (.int .i64 0) := by rw [World.cell?, hz]; rfl
          have y2 : uB.cell? ⟨w4.heap.size, 2, none⟩ = some (.slice none 0 0) := by rw [World.cell?, hz]; rfl
          have yf : ∀ k, uB.frozen? ⟨w4.heap.size, k, none⟩ = false := Lib.frozen_of_heap hz
          refine hK.out _ _ hSC (fun _ => ?_)
          clear hK K
          refine wpAnyH_take (i := 11) (v := ?_) rfl (by kernel_rfl) (by kernel_rfl) (by kernel_rfl) (fun _ _ _ h => h) (Or.inl ⟨by kernel_rfl, ?hy11⟩) (by assumption) ?_
          case hy11 => (intro w hSw; (try dsimp only at hSw); go_simp; try with_reducible rfl)
          try simp only [Act.put, List.getElem_toArray, List.getElem_cons_zero, List.getElem_cons_succ, List.setIfInBounds_toArray, List.set_cons_zero, List.set_cons_succ]
          refine wpAnyH_take (i := 12) (v := ?_) rfl (by kernel_rfl) (by kernel_rfl) (by kernel_rfl) (fun _ _ _ h => h) (Or.inl ⟨by kernel_rfl, ?hy12⟩) (by assumption) ?_
          case hy12 => (intro w hSw; (try dsimp only at hSw); go_simp; try with_reducible rfl)
          try simp only [Act.put, List.getElem_toArray, List.getElem_cons_zero, List.getElem_cons_succ, List.setIfInBounds_toArray, List.set_cons_zero, List.set_cons_succ]
          refine wpAnyH_take (i := 13) (v := ?_) rfl (by kernel_rfl) (by kernel_rfl) (by kernel_rfl) (fun _ _ _ h => h) (Or.inl ⟨by kernel_rfl, ?hy13⟩) (by assumption) ?_
          case hy13 => (intro w hSw; (try dsimp only at hSw); go_simp; try with_reducible rfl)
          try simp only [Act.put, List.getElem_toArray, List.getElem_cons_zero, List.getElem_cons_succ, List.setIfInBounds_toArray, List.set_cons_zero, List.set_cons_succ]
          refine wpAnyH_ready (rs := [15]) (by kernel_rfl) (by simp) ?_
          refine AllReadyH.cons rfl (fun K hK => ?_) AllReadyH.nil
          go_simp
          have hX1 : Below w4.heap.size w4 (((uB.setCell ⟨w4.heap.size, 0, none⟩ (.int .i64 0)).setCell ⟨w4.heap.size, 1, none⟩ (.int .i64 0)).setCell ⟨w4.heap.size, 2, none⟩ (.slice a5 0 c5)) := ((hSC.setCell (p := ⟨w4.heap.size, 0, none⟩) b3.size _).setCell (p := ⟨w4.heap.size, 1, none⟩) b3.size _).setCell (p := ⟨w4.heap.size, 2, none⟩) b3.size _
          refine hK.out _ _ hX1 (fun _ => ?_)
          clear hK K
          refine wpAnyH_take (i := 16) (v := ?_) rfl (by kernel_rfl) (by kernel_rfl) (by kernel_rfl) (fun _ _ _ h => h) (Or.inl ⟨by kernel_rfl, ?hy16⟩) (by assumption) ?_
          case hy16 => (intro w hSw; (try dsimp only at hSw); go_simp; try with_reducible rfl)
          try simp only [Act.put, List.getElem_toArray, List.getElem_cons_zero, List.getElem_cons_succ, List.setIfInBounds_toArray, List.set_cons_zero, List.set_cons_succ]
          refine wpAnyH_done (by kernel_rfl) ?_ _
          have HX1 : Hid (Er es r1 2) := he1
          clear hHeld hSB hSC hz y0 y1 y2 yf hb he1
          go_wp2_with fail
          refine region_gen (fun X bX => ?_) hX1
          clear hX1
          refine wp_region_held_drew (S := fun x => Below w4.heap.size w4 x) (by kernel_rfl) bX.drew (fun hHeld => ?_)
          have hHeld : Below w4.heap.size w4 X.drew := hHeld
          refine wpAnyH_take (i := 0) (v := ?_) rfl (by kernel_rfl) (by kernel_rfl) (by kernel_rfl) (fun _ _ _ h => h) (Or.inl ⟨by kernel_rfl, ?hy0⟩) (by assumption) ?_
          case hy0 => (intro w hSw; (try dsimp only at hSw); go_simp; try with_reducible rfl)
          try simp only [Act.put, List.getElem_toArray, List.getElem_cons_zero, List.setIfInBounds_toArray, List.set_cons_zero, List.set_cons_succ]
          refine wpAnyH_take (i := 1) (v := ?_) rfl (by kernel_rfl) (by kernel_rfl) (by kernel_rfl) (fun _ _ _ h => h) (Or.inl ⟨by kernel_rfl, ?hy1⟩) (by assumption) ?_
          case hy1 => (intro w hSw; (try dsimp only at hSw); go_simp; try with_reducible rfl)
          try simp only [Act.put, List.getElem_toArray, List.getElem_cons_zero, List.getElem_cons_succ, List.setIfInBounds_toArray, List.set_cons_zero, List.set_cons_succ]
          refine wpAnyH_take (i := 2) (v := ?_) rfl (by kernel_rfl) (by kernel_rfl) (by kernel_rfl) (fun _ _ _ h => h) (Or.inl ⟨by kernel_rfl, ?hy2⟩) (by assumption) ?_
          case hy2 => (intro w hSw; (try dsimp only at hSw); go_simp; try with_reducible rfl)
          try simp only [Act.put, List.getElem_toArray, List.getElem_cons_zero, List.getElem_cons_succ, List.setIfInBounds_toArray, List.set_cons_zero, List.set_cons_succ]
          refine wpAnyH_take (i := 3) (v := ?_) rfl (by kernel_rfl) (by kernel_rfl) (by kernel_rfl) (fun _ _ _ h => h) (Or.inl ⟨by kernel_rfl, ?hy3⟩) (by assumption) ?_
          case hy3 => (intro w hSw; (try dsimp only at hSw); go_simp; try with_reducible rfl)
          try simp only [Act.put, List.getElem_toArray, List.getElem_cons_zero, List.getElem_cons_succ, List.setIfInBounds_toArray, List.set_cons_zero, List.set_cons_succ]
          refine wpAnyH_take (i := 4) (v := ?_) rfl (by kernel_rfl) (by kernel_rfl) (by kernel_rfl) (fun _ _ _ h => h) (Or.inl ⟨by kernel_rfl, ?hy4⟩) (by assumption) ?_
          case hy4 => (intro w hSw; (try dsimp only at hSw); go_simp; try with_reducible rfl)
          try simp only [Act.put, List.getElem_toArray, List.getElem_cons_zero, List.getElem_cons_succ, List.setIfInBounds_toArray, List.set_cons_zero, List.set_cons_succ]
          refine wpAnyH_take (i := 5) (v := ?_) rfl (by kernel_rfl) (by kernel_rfl) (by kernel_rfl) (fun _ _ _ h => h) (Or.inl ⟨by kernel_rfl, ?hy5⟩) (by assumption) ?_
          case hy5 => (intro w hSw; (try dsimp only at hSw); go_simp; try with_reducible rfl)
          try simp only [Act.put, List.getElem_toArray, List.getElem_cons_zero, List.getElem_cons_succ, List.setIfInBounds_toArray, List.set_cons_zero, List.set_cons_succ]
          refine wpAnyH_take (i := 6) (v := ?_) rfl (by kernel_rfl) (by kernel_rfl) (by kernel_rfl) (fun _ _ _ h => h) (Or.inl ⟨by kernel_rfl, ?hy6⟩) (by assumption) ?_
          case hy6 => (intro w hSw; (try dsimp only at hSw); go_simp; try with_reducible rfl)
          try simp only [Act.put, List.getElem_toArray, List.getElem_cons_zero, List.getElem_cons_succ, List.setIfInBounds_toArray, List.set_cons_zero, List.set_cons_succ]
          refine wpAnyH_take (i := 7) (v := ?_) rfl (by kernel_rfl) (by kernel_rfl) (by kernel_rfl) (fun _ _ _ h => h) (Or.inl ⟨by kernel_rfl, ?hy7⟩) (by assumption) ?_
          case hy7 => (intro w hSw; (try dsimp only at hSw); go_simp; try with_reducible rfl)
          try simp only [Act.put, List.getElem_toArray, List.getElem_cons_zero, List.getElem_cons_succ, List.setIfInBounds_toArray, List.set_cons_zero, List.set_cons_succ]
          refine wpAnyH_take (i := 8) (v := ?_) rfl (by kernel_rfl) (by kernel_rfl) (by kernel_rfl) (fun _ _ _ h => h) (Or.inl ⟨by kernel_rfl, ?hy8⟩) (by assumption) ?_
          case hy8 => (intro w hSw; (try dsimp only at hSw); go_simp; try with_reducible rfl)
          try simp only [Act.put, List.getElem_toArray, List.getElem_cons_zero, List.getElem_cons_succ, List.setIfInBounds_toArray, List.set_cons_zero, List.set_cons_succ]
          refine wpAnyH_take (i := 9) (v := ?_) rfl (by kernel_rfl) (by kernel_rfl) (by kernel_rfl) (fun _ _ _ h => h) (Or.inl ⟨by kernel_rfl, ?hy9⟩) (by assumption) ?_
          case hy9 => (intro w hSw; (try dsimp only at hSw); go_simp; try with_reducible rfl)
          try simp only [Act.put, List.getElem_toArray, List.getElem_cons_zero, List.getElem_cons_succ, List.setIfInBounds_toArray, List.set_cons_zero, List.set_cons_succ]
          refine wpAnyH_ready (rs := [10, 14]) (by kernel_rfl) (by simp) ?_
          refine AllReadyH.cons rfl (fun K hK => ?_) (AllReadyH.cons rfl (fun K hK => ?_) AllReadyH.nil)
          · go_simp
            go_wp2_with fail
            refine (HC2.out _ hHeld).mono ?_
            rintro e uA ⟨a5, c5, r2, rfl, he2, hb⟩
            have hSA : Below w4.heap.size w4 uA := Below.on hHeld hb
            refine hK.out _ _ hSA (fun _ => ?_)
            clear hK K
            refine wpAnyH_take (i := 11) (v := ?_) rfl (by kernel_rfl) (by kernel_rfl) (by kernel_rfl) (fun _ _ _ h => h) (Or.inl ⟨by kernel_rfl, ?hy11⟩) (by assumption) ?_
            case hy11 => (intro w hSw; (try dsimp only at hSw); go_simp; try with_reducible rfl)
            try simp only [Act.put, List.getElem_toArray, List.getElem_cons_zero, List.getElem_cons_succ, List.setIfInBounds_toArray, List.set_cons_zero, List.set_cons_succ]
            refine wpAnyH_take (i := 12) (v := ?_) rfl (by kernel_rfl) (by kernel_rfl) (by kernel_rfl) (fun _ _ _ h => h) (Or.inl ⟨by kernel_rfl, ?hy12⟩) (by assumption) ?_
            case hy12 => (intro w hSw; (try dsimp only at hSw); go_simp; try with_reducible rfl)
            try simp only [Act.put, List.getElem_toArray, List.getElem_cons_zero, List.getElem_cons_succ, List.setIfInBounds_toArray, List.set_cons_zero, List.set_cons_succ]
            refine wpAnyH_take (i := 13) (v := ?_) rfl (by kernel_rfl) (by kernel_rfl) (by kernel_rfl) (fun _ _ _ h => h) (Or.inl ⟨by kernel_rfl, ?hy13⟩) (by assumption) ?_
            case hy13 => (intro w hSw; (try dsimp only at hSw); go_simp; try with_reducible rfl)
            try simp only [Act.put, List.getElem_toArray, List.getElem_cons_zero, List.getElem_cons_succ, List.setIfInBounds_toArray, List.set_cons_zero, List.set_cons_succ]
            refine wpAnyH_ready (rs := [14]) (by kernel_rfl) (by simp) ?_
            refine AllReadyH.cons rfl (fun K hK => ?_) AllReadyH.nil
            go_simp
            refine hK.out _ _ (hSA.alloc hSA.size _) (fun _ => ?_)
            clear hK K
            refine wpAnyH_ready (rs := [15]) (by kernel_rfl) (by simp) ?_
            refine AllReadyH.cons rfl (fun K hK => ?_) AllReadyH.nil
            go_simp
            refine hK.out _ _ (hSA.alloc hSA.size _) (fun _ => ?_)
            clear hK K
            have hX2 : Below w4.heap.size w4 (uA.alloc (.cells #[.int .i64 0, .int .i64 0, .slice a5 0 c5] 24)) := hSA.alloc hSA.size _
            refine wpAnyH_take (i := 16) (v := ?_) rfl (by kernel_rfl) (by kernel_rfl) (by kernel_rfl) (fun _ _ _ h => h) (Or.inl ⟨by kernel_rfl, ?hy16⟩) (by assumption) ?_
            case hy16 => (intro w hSw; (try dsimp only at hSw); go_simp; try with_reducible rfl)
            try simp only [Act.put, List.getElem_toArray, List.getElem_cons_zero, List.getElem_cons_succ, List.setIfInBounds_toArray, List.set_cons_zero, List.set_cons_succ]
            refine wpAnyH_done (by kernel_rfl) ?_ _
            have HX2 : Hid (Er es r2 3) := he2
            clear hHeld hSA hb he2
            go_wp2_with fail
            refine (HK.out _ r1 2 (HS3.out.on hX2) HX1.out (by decide)).mono ?_
            rintro e w8 ⟨rfl, hS8⟩
            go_wp2_with fail
            refine (HK.out _ r2 3 hS8 HX2.out (by decide)).mono ?_
            rintro e w9 ⟨rfl, hS9⟩
            go_wp2_with fail
            refine (HW.out _ hS9).mono ?_
            rintro e w99 ⟨rfl, b99⟩
            go_wp2
            go_ret
            exact ⟨rfl, b99⟩
          · go_simp
            have hSB : Below w4.heap.size w4 (X.alloc (.cells #[.int .i64 0, .int .i64 0, .slice none 0 0] 24)).drew := (bX.alloc bX.size _).drew
            refine hK.out _ _ hSB (fun _ => ?_)
            clear hK K
            refine wpAnyH_ready (rs := [10]) (by kernel_rfl) (by simp) ?_
            refine AllReadyH.cons rfl (fun K hK => ?_) AllReadyH.nil
            go_simp
            go_wp2_with fail
            refine (HC2.out _ hSB).mono ?_
            rintro e uB ⟨a5, c5, r2, rfl, he2, hb⟩
            have hSC : Below w4.heap.size w4 uB := Below.on hSB hb
            have hz : uB.heap[X.heap.size]? = some (.cells #[.int .i64 0, .int .i64 0, .slice none 0 0] 24 (0, 0)) := by
              rw [hb.block _ (by simp)]
              exact heap_alloc_new X _
            have y0 : uB.cell? ⟨X.heap.size, 0, none⟩ = some (.int .i64 0) := by rw [World.cell?, hz]; rfl
            have y1 : uB.cell? ⟨X.heap.size, 1, none⟩ = some (.int .i64 0) := by rw [World.cell?, hz]; rfl
            have y2 : uB.cell? ⟨X.heap.size, 2, none⟩ = some (.slice none 0 0) := by rw [World.cell?, hz]; rfl
            have yf : ∀ k, uB.frozen? ⟨X.heap.size, k, none⟩ = false := Lib.frozen_of_heap hz
            refine hK.out _ _ hSC (fun _ => ?_)
            clear hK K
            refine wpAnyH_take (i := 11) (v := ?_) rfl (by kernel_rfl) (by kernel_rfl) (by kernel_rfl) (fun _ _ _ h => h) (Or.inl ⟨by kernel_rfl, ?hy11⟩) (by assumption) ?_
            case hy11 => (intro w hSw; (try dsimp only at hSw); go_simp; try with_reducible rfl)
            try simp only [Act.put, List.getElem_toArray, List.getElem_cons_zero, List.getElem_cons_succ, List.setIfInBounds_toArray, List.set_cons_zero, List.set_cons_succ]
            refine wpAnyH_take (i := 12) (v := ?_) rfl (by kernel_rfl) (by kernel_rfl) (by kernel_rfl) (fun _ _ _ h => h) (Or.inl ⟨by kernel_rfl, ?hy12⟩) (by assumption) ?_
            case hy12 => (intro w hSw; (try dsimp only at hSw); go_simp; try with_reducible rfl)
            try simp only [Act.put, List.getElem_toArray, List.getElem_cons_zero, List.getElem_cons_succ, List.setIfInBounds_toArray, List.set_cons_zero, List.set_cons_succ]
            refine wpAnyH_take (i := 13) (v := ?_) rfl (by kernel_rfl) (by kernel_rfl) (by kernel_rfl) (fun _ _ _ h => h) (Or.inl ⟨by kernel_rfl, ?hy13⟩) (by assumption) ?_
            case hy13 => (intro w hSw; (try dsimp only at hSw); go_simp; try with_reducible rfl)
            try simp only [Act.put, List.getElem_toArray, List.getElem_cons_zero, List.getElem_cons_succ, List.setIfInBounds_toArray, List.set_cons_zero, List.set_cons_succ]
            refine wpAnyH_ready (rs := [15]) (by kernel_rfl) (by simp) ?_
            refine AllReadyH.cons rfl (fun K hK => ?_) AllReadyH.nil
            go_simp
            have hX2 : Below w4.heap.size w4 (((uB.setCell ⟨X.heap.size, 0, none⟩ (.int .i64 0)).setCell ⟨X.heap.size, 1, none⟩ (.int .i64 0)).setCell ⟨X.heap.size, 2, none⟩ (.slice a5 0 c5)) := ((hSC.setCell (p := ⟨X.heap.size, 0, none⟩) bX.size _).setCell (p := ⟨X.heap.size, 1, none⟩) bX.size _).setCell (p := ⟨X.heap.size, 2, none⟩) bX.size _
            refine hK.out _ _ hX2 (fun _ => ?_)
            clear hK K
            refine wpAnyH_take (i := 16) (v := ?_) rfl (by kernel_rfl) (by kernel_rfl) (by kernel_rfl) (fun _ _ _ h => h) (Or.inl ⟨by kernel_rfl, ?hy16⟩) (by assumption) ?_
            case hy16 => (intro w hSw; (try dsimp only at hSw); go_simp; try with_reducible rfl)
            try simp only [Act.put, List.getElem_toArray, List.getElem_cons_zero, List.getElem_cons_succ, List.setIfInBounds_toArray, List.set_cons_zero, List.set_cons_succ]
            refine wpAnyH_done (by kernel_rfl) ?_ _
            have HX2 : Hid (Er es r2 3) := he2
            clear hHeld hSB hSC hz y0 y1 y2 yf hb he2
            go_wp2_with fail
            refine (HK.out _ r1 2 (HS3.out.on hX2) HX1.out (by decide)).mono ?_
            rintro e w8 ⟨rfl, hS8⟩
            go_wp2_with fail
            refine (HK.out _ r2 3 hS8 HX2.out (by decide)).mono ?_
            rintro e w9 ⟨rfl, hS9⟩
            go_wp2_with fail
            refine (HW.out _ hS9).mono ?_
            rintro e w99 ⟨rfl, b99⟩
            go_wp2
            go_ret
            exact ⟨rfl, b99⟩
    · obtain ⟨m3, hm3⟩ : ∃ m, putE o q l s.data.toList = m + 1 := ⟨putE o q l s.data.toList - 1, by omega⟩
      rw [hm3] at he3
      obtain ⟨t3, u3, rfl⟩ := he3.some
      have HS3 : Hid (Stay w o q a n c l es w3) := hS3
      have hv3 := hp3.2 hP
      subst hv3
      clear he3 hp3 hS3 hm3 hP
      go_wp2_with fail
      refine (HW.out w3 HS3.out).mono ?_
      rintro e w99 ⟨rfl, b99⟩
      go_wp2
      go_ret
      exact ⟨rfl, b99⟩

theorem walk (o q : Int) (a : Option Addr) (n c : Nat) (l : List AV) (s : ByteArray) (at_ : Int) (w : World) (_ : -9223372036854775808 ≤ o ∧ o ≤ 9223372036854775807) (_ : -9223372036854775808 ≤ q ∧ q ≤ 9223372036854775807) (hr : RdA w a n c l) (hs : s.size ≤ 140737488351232)
    (hat : (Lit.int .i64 at_).wf = true) (hL : laidMetH Tryd.prog Rows.wireCutsRow.laid w) :
    Calls Tryd.prog 5 #[.agg #[.int .i64 o, .int .i64 q, .slice a n c], .string s, .int .i64 at_] w fun e w' => e = .returned (.bool true) ∧ Below w.heap.size w w' := by
  obtain ⟨es, hF⟩ := errs16 hL
  have hat' : -9223372036854775808 ≤ at_ ∧ at_ ≤ 9223372036854775807 := by simpa [Lit.wf, IntKind.min, IntKind.max, IntKind.signed, IntKind.bits] using hat
  exact core o q at_ hat' a n c s l w hr (by simp only [maxLen]; omega) es hF
end Go.Proofs.YtoggnfadfocogaaDoor.wireCuts
