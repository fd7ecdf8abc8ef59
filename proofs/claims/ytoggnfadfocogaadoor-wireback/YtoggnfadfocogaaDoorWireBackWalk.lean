/- WireBack's walk: for every message, signature and bytes the law returns true; nothing that was there is turned. -/
import Derived.Test.YtoggnfadfocogaaDoorWireN
import Derived.Test.YtoggnfadfocogaaDoorWireL
namespace Go.Proofs.YtoggnfadfocogaaDoor.wireBack
open Go Go.RowKit

/-- What stays, behind every call. -/
structure Stay (w : World) (o q ro rq : Int) (a : Option Addr) (n c : Nat) (t : ByteArray) (l : List AV) (es : List Addr) (u : World) : Prop where
  m0 : u.cell? ⟨w.heap.size, 0, none⟩ = some (.int .i64 o)
  m1 : u.cell? ⟨w.heap.size, 1, none⟩ = some (.int .i64 q)
  m2 : u.cell? ⟨w.heap.size, 2, none⟩ = some (.slice a n c)
  r0 : u.cell? ⟨w.heap.size + 1, 0, none⟩ = some (.int .i64 ro)
  r1 : u.cell? ⟨w.heap.size + 1, 1, none⟩ = some (.int .i64 rq)
  r2 : u.cell? ⟨w.heap.size + 1, 2, none⟩ = some (.string t)
  low : w.heap.size + 1 < u.heap.size
  bel : Below w.heap.size w u
  rd : RdA u a n c l
  e4 : E4 u es

theorem Stay.start (w : World) (o q ro rq : Int) (a : Option Addr) (n c : Nat) (t : ByteArray) (l : List AV) (es : List Addr) (hr : RdA w a n c l) (hE : E4 w es) :
    Stay w o q ro rq a n c t l es ((w.alloc (.cells #[.int .i64 o, .int .i64 q, .slice a n c] 24)).alloc (.cells #[.int .i64 ro, .int .i64 rq, .string t] 26)) := by
  have hb : Below w.heap.size w ((w.alloc (.cells #[.int .i64 o, .int .i64 q, .slice a n c] 24)).alloc (.cells #[.int .i64 ro, .int .i64 rq, .string t] 26)) := ((Below.refl _ _).alloc (Nat.le_refl _) _).alloc (by simp) _
  exact ⟨by simp, by simp, by simp, by simp, by simp, by simp, by simp, hb, hr.below hb hr.low, hE.below hb⟩

theorem Stay.on {w : World} {o q ro rq : Int} {a : Option Addr} {n c : Nat} {t : ByteArray} {l : List AV} {es : List Addr} {u v : World} (h : Stay w o q ro rq a n c t l es u) (hb : Below u.heap.size u v) : Stay w o q ro rq a n c t l es v := by
  have hc : ∀ {b i x}, u.cell? ⟨b, i, none⟩ = some x → v.cell? ⟨b, i, none⟩ = some x := fun {b i x} hx => by
    rw [hb.cell (World.block_lt_of_cell? u _ hx)]; exact hx
  exact ⟨hc h.m0, hc h.m1, hc h.m2, hc h.r0, hc h.r1, hc h.r2, Nat.lt_of_lt_of_le h.low hb.size, Below.on h.bel hb, h.rd.below hb h.rd.low, h.e4.below hb⟩

/-- What is put, as a slice that can be cut. -/
theorem put_slice {base : Nat} {w : World} {o q : Int} {l : List AV} {v : Value} (h : PutIs base w 0 (putB o q l) v) : ∃ g off c, v = .slice (some ⟨g, off, none⟩) (8 + (pas l).length) c ∧ 8 + (pas l).length ≤ c ∧ Rd w (some ⟨g, off, none⟩) (8 + (pas l).length) c (putB o q l) := by
  have ho := h.1 rfl
  rw [putB_length] at ho
  obtain ⟨a, c, rfl, hr, _⟩ := rd_of_owns ho
  obtain ⟨g, off, rfl, _, _⟩ := hr.plain (by omega)
  exact ⟨g, off, c, rfl, hr.le, hr⟩

/-- 'string(b[8:])'. -/
theorem conv_tail {w : World} {g off c : Nat} {o q : Int} {l : List AV} (hr : Rd w (some ⟨g, off, none⟩) (8 + (pas l).length) c (putB o q l)) (d e : Nat) :
    (convert 27 9 (.slice (some ⟨g, off + 8, none⟩) (pas l).length d)).run Tryd.prog (w.drewN e) = .ok (.string ⟨(pas l).toArray⟩) (w.drewN e) := by
  obtain ⟨g', off', h1, _, hc⟩ := hr.plain (by omega)
  obtain ⟨rfl, rfl⟩ : g = g' ∧ off = off' := by cases h1; exact ⟨rfl, rfl⟩
  have h := conv_window hc 8 (pas l).length (by rw [putB_length]; omega) e d
  rw [putB_drop, List.take_length] at h
  exact h

theorem conv_tail0 {w : World} {g off c : Nat} {l : List AV} (hc : 8 + (pas l).length ≤ c) (h8 : c = 8) (d e : Nat) :
    (convert 27 9 (.slice (some ⟨g, off, none⟩) (pas l).length d)).run Tryd.prog (w.drewN e) = .ok (.string ⟨(pas l).toArray⟩) (w.drewN e) := by
  have hl : pas l = [] := List.eq_nil_of_length_eq_zero (by omega)
  rw [hl]
  exact conv_none _ _ _

set_option maxRecDepth 100000 in
set_option maxHeartbeats 8000000 in
theorem core (o q ro rq : Int) (a : Option Addr) (n c : Nat) (s t : ByteArray) (l : List AV) (w : World) (hr : RdA w a n c l) (hs : s.size ≤ maxLen) (ht : t.size ≤ maxLen) (es : List Addr) (hE : E4 w es) :
    Calls Tryd.prog 4 #[.agg #[.int .i64 o, .int .i64 q, .slice a n c], .string s, .agg #[.int .i64 ro, .int .i64 rq, .string t]] w fun e w' => e = .returned (.bool true) ∧ Below w.heap.size w w' := by
  have hS := Stay.start w o q ro rq a n c t l es hr hE
  have HF : Hid (Calls Tryd.prog 9 #[.agg #[.int .i64 o, .int .i64 q, .slice a n c], .string s] ((w.alloc (.cells #[.int .i64 o, .int .i64 q, .slice a n c] 24)).alloc (.cells #[.int .i64 ro, .int .i64 rq, .string t] 26)) fun e w' => FewRet l s e ∧ Stay w o q ro rq a n c t l es w') := by
    refine (few_any o q a n c l s hs _ hS.rd).mono ?_
    rintro e w' ⟨h1, h2⟩
    exact ⟨h1, hS.on h2⟩
  have HW : Hid (∀ u, Stay w o q ro rq a n c t l es u → Calls Tryd.prog 10 #[] u fun e w' => e = .returned (.bool true) ∧ Below w.heap.size w w') := fun u hu => by
    refine (awake4_any u es hu.e4).mono ?_
    rintro e w' ⟨rfl, hb⟩
    exact ⟨rfl, Below.on hu.bel hb⟩
  have htn : t.size ≤ 9223372036854775807 := by simp only [maxLen] at ht; omega
  have hln := hr.len
  clear hS hr hE hs ht
  go_enter Tryd.func4, Tryd.ntmps4
  go_wp2_with fail
  refine HF.out.mono ?_
  rintro e w1 ⟨⟨b, rfl, hf⟩, hS⟩
  have HS1 : Hid (Stay w o q ro rq a n c t l es w1) := hS
  have m0 := hS.m0
  have m1 := hS.m1
  have m2 := hS.m2
  have r1 := hS.r1
  have r2 := hS.r2
  clear hS HF
  cases b with
  | false =>
    go_wp2_with fail
    refine (HW.out w1 HS1.out).mono ?_
    rintro e w99 ⟨rfl, b99⟩
    go_wp2
    go_ret
    exact ⟨rfl, b99⟩
  | true =>
    have hF := hf rfl
    clear hf
    by_cases h1 : 4000 < t.size
    · have e1 : decide ((4000 : Int) < t.size) = true := decide_eq_true (by omega)
      clear hF
      go_wp2_with fail
      refine (HW.out w1 HS1.out).mono ?_
      rintro e w99 ⟨rfl, b99⟩
      go_wp2
      go_ret
      exact ⟨rfl, b99⟩
    have e1 : decide ((4000 : Int) < t.size) = false := decide_eq_false (by omega)
    by_cases h2 : rq < 0
    · have e2 : decide (rq < 0) = true := decide_eq_true h2
      clear hF
      go_wp2_with fail
      refine (HW.out w1 HS1.out).mono ?_
      rintro e w99 ⟨rfl, b99⟩
      go_wp2
      go_ret
      exact ⟨rfl, b99⟩
    have e2 : decide (rq < 0) = false := decide_eq_false h2
    by_cases h3 : 65535 < rq
    · have e3 : decide (65535 < rq) = true := decide_eq_true h3
      clear hF
      go_wp2_with fail
      refine (HW.out w1 HS1.out).mono ?_
      rintro e w99 ⟨rfl, b99⟩
      go_wp2
      go_ret
      exact ⟨rfl, b99⟩
    have e3 : decide (65535 < rq) = false := decide_eq_false h3
    have hF1 := hF.1
    have hF2 := hF.2.1
    have HSM : Hid (Small l) := fun x hx => by have := hF.2.2 x hx; omega
    have HT : Hid (t.data.toList.length = t.size) := size_toList t
    have htl : t.size ≤ 4000 := by omega
    clear h1 h2 h3 hF
    have HM : Hid (Calls Tryd.prog 12 #[.agg #[.int .i64 o, .int .i64 q, .slice a n c]] w1 fun e w' => ∃ a2 c2, e = .returned (.agg #[.int .i64 o, .int .i64 q, .slice a2 n c2]) ∧ RdA w' a2 n c2 l ∧ Stay w o q ro rq a n c t l es w') := by
      refine (msg_any o q a n c l w1 HS1.out.rd (by omega)).mono ?_
      rintro e w' ⟨a2, c2, rfl, hr2, hb⟩
      exact ⟨a2, c2, rfl, hr2, HS1.out.on hb⟩
    have HG : Hid (∀ u, Stay w o q ro rq a n c t l es u → Calls Tryd.prog 14 #[.agg #[.int .i64 ro, .int .i64 rq, .string t], .string s] u fun e w' => ∃ v r, e = .returned (.tuple #[v, r]) ∧ Er es r (gotE ro rq t.data.toList s.data.toList) ∧ GotIs u.heap.size w' ro rq t.data.toList s.data.toList v ∧ Stay w o q ro rq a n c t l es w') := fun u hu => by
      refine (Get_any ro rq t s (by omega) (by omega) u es hu.e4).mono ?_
      rintro e w' ⟨v, r, rfl, h1, h2, h3⟩
      exact ⟨v, r, rfl, h1, h2, hu.on h3⟩
    go_wp2_with fail
    refine HM.out.mono ?_
    rintro e w2 ⟨a2, c2, rfl, hr2, hS2⟩
    have HP : Hid (Calls Tryd.prog 11 #[.agg #[.int .i64 o, .int .i64 q, .slice a2 n c2], .string s] w2 fun e w' => ∃ v r, e = .returned (.tuple #[v, r]) ∧ Er es r (putE o q l s.data.toList) ∧ PutIs w2.heap.size w' (putE o q l s.data.toList) (putB o q l) v ∧ Stay w o q ro rq a n c t l es w') := by
      refine (Put_any o q a2 n c2 l s w2 hr2 HSM.out (by omega) es hS2.e4).mono ?_
      rintro e w' ⟨v, r, rfl, h1, h2, h3⟩
      exact ⟨v, r, rfl, h1, h2, hS2.on h3⟩
    clear HM hr2 hS2 HS1 m0 m1 m2 r1 r2 HSM
    go_wp2_with fail
    refine HP.out.mono ?_
    rintro e w3 ⟨v3, r3, rfl, he3, hp3, hS3⟩
    clear HP
    by_cases hP : putE o q l s.data.toList = 0
    · rw [hP] at he3 hp3
      obtain rfl := he3.nil
      obtain ⟨g, off, c3, rfl, hc3, hr3⟩ := put_slice hp3
      obtain ⟨d0, d1, d2, d3⟩ := putB_head hP
      obtain ⟨p1, p2⟩ := put_got hP
      have hpl := (putE_zero hP).2.1
      have hcv := fun d e => conv_tail hr3 d e
      have hcv0 := fun (h8 : c3 = 8) (d e : Nat) => conv_tail0 (w := w3) (g := g) (off := off) hc3 h8 d e
      have HL : Hid ((pas l).toArray.size = (pas l).length) := List.size_toArray
      have HH : Hid (Calls Tryd.prog 16 #[.slice (some ⟨g, off, none⟩) (8 + (pas l).length) c3] w3 fun e w' => e = .returned (.tuple #[.int .i64 o, .int .i64 q, .int .i64 (8 + (pas l).length : Nat), .nilIface]) ∧ ∃ k, w' = w3.drewN k) := by
        refine (head_any w3 _ _ c3 _ hr3 (by omega) es hS3.e4).mono ?_
        rintro e w' ⟨rfl, hk⟩
        rw [d0, d1, d2, d3]
        exact ⟨rfl, hk⟩
      have HGG : Hid (∀ k, Calls Tryd.prog 14 #[.agg #[.int .i64 o, .int .i64 q, .string ⟨(pas l).toArray⟩], .string s] (w3.drewN k) fun e w' => ∃ a5 c5, e = .returned (.tuple #[.agg #[.int .i64 o, .int .i64 q, .slice a5 n c5], .nilIface]) ∧ RdA w' a5 n c5 l ∧ Stay w o q ro rq a n c t l es w') := fun k => by
        have hb : Below w3.heap.size w3 (w3.drewN k) := below_drewN (Below.refl _ _) k
        refine (Get_any o q ⟨(pas l).toArray⟩ s (by show (pas l).length ≤ _; omega) (by omega) _ es (hS3.on hb).e4).mono ?_
        rintro e w' ⟨v, r, rfl, h1, h2, h3⟩
        have f1 : gotE o q (ByteArray.mk (pas l).toArray).data.toList s.data.toList = 0 := p1
        have f2 : gotL o q (ByteArray.mk (pas l).toArray).data.toList s.data.toList = l := p2
        rw [f1] at h1
        obtain ⟨a5, n5, c5, rfl, hr5, _, _⟩ := h2
        rw [f2] at hr5
        rw [gotO, gotQ, if_pos f1, if_pos f1, h1.nil]
        obtain rfl : n5 = n := by rw [← hr5.len, hln]
        exact ⟨a5, c5, rfl, hr5, (hS3.on hb).on h3⟩
      have m0 := hS3.m0
      have m1 := hS3.m1
      have HS3 : Hid (Stay w o q ro rq a n c t l es w3) := hS3
      have o1 : (o != o) = false := by simp
      have q1 : (q != q) = false := by simp
      clear he3 hp3 hr3 d0 d1 d2 d3 p1 p2 hS3 hP HL
      generalize (pas l).length = M at *
      generalize (⟨(pas l).toArray⟩ : ByteArray) = body at *
      have n8 : decide ((8 : Int) + M < 8) = false := decide_eq_false (by omega)
      have nM : ((8 : Int) + M != 8 + M) = false := by simp
      go_wp2_with fail
      refine HH.out.mono ?_
      rintro e w4 ⟨rfl, k4, rfl⟩
      go_wp2_with fail
      all_goals
        refine (HGG.out k4).mono ?_
        rintro e w5 ⟨a5, c5, rfl, hr5, hS5⟩
        have HSame : Hid (∀ x, Calls Tryd.prog 22 #[.agg #[.int .i64 o, .int .i64 q, .slice a5 n c5], .agg #[.int .i64 o, .int .i64 q, .slice a n c]] (w5.alloc x) fun e w' => e = .returned (.bool true) ∧ Stay w o q ro rq a n c t l es w') := fun x => by
          have hbx : Below w5.heap.size w5 (w5.alloc x) := (Below.refl _ _).alloc (Nat.le_refl _) x
          refine (same_any o q a5 n c5 a c l _ (hr5.below hbx hr5.low) (hS5.on hbx).rd (by omega)).mono ?_
          rintro e w' ⟨rfl, hb⟩
          exact ⟨rfl, (hS5.on hbx).on hb⟩
        have m0' := hS5.m0
        have m1' := hS5.m1
        have m2' := hS5.m2
        have hl5 : w.heap.size < w5.heap.size := Nat.lt_of_succ_lt hS5.low
        clear hr5 hS5 HS3 HGG HH hcv hcv0 m0 m1
        go_wp2_with fail
        refine (HSame.out _).mono ?_
        rintro e w6 ⟨rfl, hS6⟩
        have HS6 : Hid (Stay w o q ro rq a n c t l es w6) := hS6
        clear hS6 HSame m0' m1' m2' hl5
        have hSx := HS6.out
        have r0 := hSx.r0
        have r1 := hSx.r1
        have r2 := hSx.r2
        clear hSx
        go_wp2_with fail
        refine (HG.out _ HS6.out).mono ?_
        rintro e w7 ⟨v7, r7, rfl, he7, hg7, hS7⟩
        clear HG r0 r1 r2 HS6
        by_cases hGz : gotE ro rq t.data.toList s.data.toList = 0
        · obtain ⟨p1, p2⟩ := got_put (by rw [HT.out]; omega) hGz
          rw [hGz] at he7
          obtain rfl := he7.nil
          obtain ⟨a7, n7, c7, rfl, hr7, hsm7, _⟩ := hg7
          rw [gotO, gotQ, if_pos hGz, if_pos hGz]
          generalize gotL ro rq t.data.toList s.data.toList = L7 at *
          have hP7 : ∀ x, Calls Tryd.prog 11 #[.agg #[.int .i64 ro, .int .i64 rq, .slice a7 n7 c7], .string s] (w7.alloc x) fun e w' => ∃ g off c8, e = .returned (.tuple #[.slice (some ⟨g, off, none⟩) (8 + t.size) c8, .nilIface]) ∧ 8 + t.size ≤ c8 ∧ (∀ d e, (convert 27 9 (.slice (some ⟨g, off + 8, none⟩) t.size d)).run Tryd.prog (w'.drewN e) = .ok (.string t) (w'.drewN e)) ∧ (c8 = 8 → ∀ d e, (convert 27 9 (.slice (some ⟨g, off, none⟩) t.size d)).run Tryd.prog (w'.drewN e) = .ok (.string t) (w'.drewN e)) ∧ Stay w o q ro rq a n c t l es w' := fun x => by
            have hbx : Below w7.heap.size w7 (w7.alloc x) := (Below.refl _ _).alloc (Nat.le_refl _) x
            have hln7 := hr7.len
            have hpl7 : (pas L7).length = t.size := by rw [p2]; exact HT.out
            have hbody : (⟨(pas L7).toArray⟩ : ByteArray) = t := by rw [p2]
            have hn7 : n7 ≤ 1152921504606846976 := by
              have h1 := okArgs_length _ _ (putE_zero p1).2.2.1
              have h2 := size_toList s
              omega
            refine (Put_any ro rq a7 n7 c7 L7 s _ (hr7.below hbx hr7.low) hsm7 hn7 es (hS7.on hbx).e4).mono ?_
            rintro e w' ⟨v8, r8, rfl, h1, h2, h3⟩
            rw [p1] at h1 h2
            obtain rfl := h1.nil
            obtain ⟨g, off, c8, rfl, hc8, hr8⟩ := put_slice h2
            have f1 := fun d e => conv_tail hr8 d e
            have f2 := fun (h8 : c8 = 8) (d e : Nat) => conv_tail0 (w := w') (g := g) (off := off) hc8 h8 d e
            rw [hpl7, hbody] at f1 f2
            rw [hpl7] at hc8 ⊢
            exact ⟨g, off, c8, rfl, hc8, f1, f2, (hS7.on hbx).on h3⟩
          have HP7 : Hid (∀ x, Calls Tryd.prog 11 #[.agg #[.int .i64 ro, .int .i64 rq, .slice a7 n7 c7], .string s] (w7.alloc x) fun e w' => ∃ g off c8, e = .returned (.tuple #[.slice (some ⟨g, off, none⟩) (8 + t.size) c8, .nilIface]) ∧ 8 + t.size ≤ c8 ∧ (∀ d e, (convert 27 9 (.slice (some ⟨g, off + 8, none⟩) t.size d)).run Tryd.prog (w'.drewN e) = .ok (.string t) (w'.drewN e)) ∧ (c8 = 8 → ∀ d e, (convert 27 9 (.slice (some ⟨g, off, none⟩) t.size d)).run Tryd.prog (w'.drewN e) = .ok (.string t) (w'.drewN e)) ∧ Stay w o q ro rq a n c t l es w') := hP7
          clear hP7 he7 hr7 hsm7 hS7 hGz p1 p2
          go_wp2_with fail
          refine (HP7.out _).mono ?_
          rintro e w8 ⟨g8, off8, c8, rfl, hc8, f1, f2, hS8⟩
          have HS8 : Hid (Stay w o q ro rq a n c t l es w8) := hS8
          have r2 := hS8.r2
          have x8 : decide ((8 : Int) + t.size < 8) = false := decide_eq_false (by omega)
          clear hS8 HP7
          by_cases hc88 : c8 = 8
          · have f2' := f2 hc88
            clear f2 f1
            go_wp2
            go_quiet (fail)
            have HS9 : Hid (Stay w o q ro rq a n c t l es (w8.drewN nq)) := HS8.out.on (below_drewN (Below.refl _ _) nq)
            go_wp2_with fail
            refine (HW.out _ HS9.out).mono ?_
            rintro e w99 ⟨rfl, b99⟩
            go_wp2
            go_ret
            exact ⟨rfl, b99⟩
          · clear f2
            go_wp2
            go_quiet (fail)
            have HS9 : Hid (Stay w o q ro rq a n c t l es (w8.drewN nq)) := HS8.out.on (below_drewN (Below.refl _ _) nq)
            go_wp2_with fail
            refine (HW.out _ HS9.out).mono ?_
            rintro e w99 ⟨rfl, b99⟩
            go_wp2
            go_ret
            exact ⟨rfl, b99⟩
        · obtain ⟨m7, hm7⟩ : ∃ m, gotE ro rq t.data.toList s.data.toList = m + 1 := ⟨gotE ro rq t.data.toList s.data.toList - 1, by omega⟩
          rw [hm7] at he7
          obtain ⟨t7, u7, rfl⟩ := he7.some
          obtain ⟨a7, n7, c7, rfl, _, _, _⟩ := hg7
          have HS8 : Hid (∀ x, Stay w o q ro rq a n c t l es (w7.alloc x)) := fun x => hS7.on ((Below.refl _ _).alloc (Nat.le_refl _) x)
          clear he7 hS7 hm7 hGz
          go_wp2_with fail
          refine (HW.out _ (HS8.out _)).mono ?_
          rintro e w99 ⟨rfl, b99⟩
          go_wp2
          go_ret
          exact ⟨rfl, b99⟩
    · obtain ⟨m3, hm3⟩ : ∃ m, putE o q l s.data.toList = m + 1 := ⟨putE o q l s.data.toList - 1, by omega⟩
      rw [hm3] at he3
      obtain ⟨t3, u3, rfl⟩ := he3.some
      have HS3 : Hid (Stay w o q ro rq a n c t l es w3) := hS3
      have hv3 := hp3.2 hP
      subst hv3
      clear he3 hp3 hS3 hm3 hP
      have hSx := HS3.out
      have r0 := hSx.r0
      have r1 := hSx.r1
      have r2 := hSx.r2
      clear hSx
      go_wp2_with fail
      refine (HG.out _ HS3.out).mono ?_
      rintro e w7 ⟨v7, r7, rfl, he7, hg7, hS7⟩
      clear HG r0 r1 r2 HS3
      by_cases hGz : gotE ro rq t.data.toList s.data.toList = 0
      · obtain ⟨p1, p2⟩ := got_put (by rw [HT.out]; omega) hGz
        rw [hGz] at he7
        obtain rfl := he7.nil
        obtain ⟨a7, n7, c7, rfl, hr7, hsm7, _⟩ := hg7
        rw [gotO, gotQ, if_pos hGz, if_pos hGz]
        generalize gotL ro rq t.data.toList s.data.toList = L7 at *
        have hP7 : ∀ x, Calls Tryd.prog 11 #[.agg #[.int .i64 ro, .int .i64 rq, .slice a7 n7 c7], .string s] (w7.alloc x) fun e w' => ∃ g off c8, e = .returned (.tuple #[.slice (some ⟨g, off, none⟩) (8 + t.size) c8, .nilIface]) ∧ 8 + t.size ≤ c8 ∧ (∀ d e, (convert 27 9 (.slice (some ⟨g, off + 8, none⟩) t.size d)).run Tryd.prog (w'.drewN e) = .ok (.string t) (w'.drewN e)) ∧ (c8 = 8 → ∀ d e, (convert 27 9 (.slice (some ⟨g, off, none⟩) t.size d)).run Tryd.prog (w'.drewN e) = .ok (.string t) (w'.drewN e)) ∧ Stay w o q ro rq a n c t l es w' := fun x => by
          have hbx : Below w7.heap.size w7 (w7.alloc x) := (Below.refl _ _).alloc (Nat.le_refl _) x
          have hln7 := hr7.len
          have hpl7 : (pas L7).length = t.size := by rw [p2]; exact HT.out
          have hbody : (⟨(pas L7).toArray⟩ : ByteArray) = t := by rw [p2]
          have hn7 : n7 ≤ 1152921504606846976 := by
            have h1 := okArgs_length _ _ (putE_zero p1).2.2.1
            have h2 := size_toList s
            omega
          refine (Put_any ro rq a7 n7 c7 L7 s _ (hr7.below hbx hr7.low) hsm7 hn7 es (hS7.on hbx).e4).mono ?_
          rintro e w' ⟨v8, r8, rfl, h1, h2, h3⟩
          rw [p1] at h1 h2
          obtain rfl := h1.nil
          obtain ⟨g, off, c8, rfl, hc8, hr8⟩ := put_slice h2
          have f1 := fun d e => conv_tail hr8 d e
          have f2 := fun (h8 : c8 = 8) (d e : Nat) => conv_tail0 (w := w') (g := g) (off := off) hc8 h8 d e
          rw [hpl7, hbody] at f1 f2
          rw [hpl7] at hc8 ⊢
          exact ⟨g, off, c8, rfl, hc8, f1, f2, (hS7.on hbx).on h3⟩
        have HP7 : Hid (∀ x, Calls Tryd.prog 11 #[.agg #[.int .i64 ro, .int .i64 rq, .slice a7 n7 c7], .string s] (w7.alloc x) fun e w' => ∃ g off c8, e = .returned (.tuple #[.slice (some ⟨g, off, none⟩) (8 + t.size) c8, .nilIface]) ∧ 8 + t.size ≤ c8 ∧ (∀ d e, (convert 27 9 (.slice (some ⟨g, off + 8, none⟩) t.size d)).run Tryd.prog (w'.drewN e) = .ok (.string t) (w'.drewN e)) ∧ (c8 = 8 → ∀ d e, (convert 27 9 (.slice (some ⟨g, off, none⟩) t.size d)).run Tryd.prog (w'.drewN e) = .ok (.string t) (w'.drewN e)) ∧ Stay w o q ro rq a n c t l es w') := hP7
        clear hP7 he7 hr7 hsm7 hS7 hGz p1 p2
        go_wp2_with fail
        refine (HP7.out _).mono ?_
        rintro e w8 ⟨g8, off8, c8, rfl, hc8, f1, f2, hS8⟩
        have HS8 : Hid (Stay w o q ro rq a n c t l es w8) := hS8
        have r2 := hS8.r2
        have x8 : decide ((8 : Int) + t.size < 8) = false := decide_eq_false (by omega)
        clear hS8 HP7
        by_cases hc88 : c8 = 8
        · have f2' := f2 hc88
          clear f2 f1
          go_wp2
          go_quiet (fail)
          have HS9 : Hid (Stay w o q ro rq a n c t l es (w8.drewN nq)) := HS8.out.on (below_drewN (Below.refl _ _) nq)
          go_wp2_with fail
          refine (HW.out _ HS9.out).mono ?_
          rintro e w99 ⟨rfl, b99⟩
          go_wp2
          go_ret
          exact ⟨rfl, b99⟩
        · clear f2
          go_wp2
          go_quiet (fail)
          have HS9 : Hid (Stay w o q ro rq a n c t l es (w8.drewN nq)) := HS8.out.on (below_drewN (Below.refl _ _) nq)
          go_wp2_with fail
          refine (HW.out _ HS9.out).mono ?_
          rintro e w99 ⟨rfl, b99⟩
          go_wp2
          go_ret
          exact ⟨rfl, b99⟩
      · obtain ⟨m7, hm7⟩ : ∃ m, gotE ro rq t.data.toList s.data.toList = m + 1 := ⟨gotE ro rq t.data.toList s.data.toList - 1, by omega⟩
        rw [hm7] at he7
        obtain ⟨t7, u7, rfl⟩ := he7.some
        obtain ⟨a7, n7, c7, rfl, _, _, _⟩ := hg7
        have HS8 : Hid (∀ x, Stay w o q ro rq a n c t l es (w7.alloc x)) := fun x => hS7.on ((Below.refl _ _).alloc (Nat.le_refl _) x)
        clear he7 hS7 hm7 hGz
        go_wp2_with fail
        refine (HW.out _ (HS8.out _)).mono ?_
        rintro e w99 ⟨rfl, b99⟩
        go_wp2
        go_ret
        exact ⟨rfl, b99⟩

theorem walk (o q : Int) (a : Option Addr) (n c : Nat) (l : List AV) (s : ByteArray) (ro rq : Int) (t : ByteArray) (w : World) (_ : -9223372036854775808 ≤ o ∧ o ≤ 9223372036854775807) (_ : -9223372036854775808 ≤ q ∧ q ≤ 9223372036854775807) (hr : RdA w a n c l) (hs : s.size ≤ 140737488351232)
    (_ : -9223372036854775808 ≤ ro ∧ ro ≤ 9223372036854775807) (_ : -9223372036854775808 ≤ rq ∧ rq ≤ 9223372036854775807) (ht : t.size ≤ maxLen) (hL : laidMetH Tryd.prog Rows.wireBackRow.laid w) :
    Calls Tryd.prog 4 #[.agg #[.int .i64 o, .int .i64 q, .slice a n c], .string s, .agg #[.int .i64 ro, .int .i64 rq, .string t]] w fun e w' => e = .returned (.bool true) ∧ Below w.heap.size w w' := by
  obtain ⟨es, hF⟩ := errs4 hL
  exact core o q ro rq a n c s t l w hr (by simp only [maxLen]; omega) ht es (E4.of hF rfl)
end Go.Proofs.YtoggnfadfocogaaDoor.wireBack
