/- The contract of the program's wire.Put; tableaulaw04.awake. -/
import Derived.Test.YtoggnfadfocogaaDoorWireD
namespace Go.Proofs.YtoggnfadfocogaaDoor
open Go Go.RowKit

theorem such_small {k : Nat} {n : Int} {l : List UInt8} (h : suchB k n l = true) : l.length ≤ 200 := by
  unfold suchB at h
  split at h
  · simp at h; rw [h.1]; decide
  · split at h
    · simp at h; rw [h.1]; decide
    · split at h
      · simp at h; rw [h.1]; decide
      · split at h
        · simp at h; omega
        · split at h
          · simp at h; omega
          · cases h

theorem okArgs_small : ∀ (l : List AV) (s : List UInt8), okArgs l s = true → ∀ x ∈ l, x.s.size ≤ 200
  | [], _, _, x, hx => by cases hx
  | y :: l, [], h, x, hx => by cases h
  | y :: l, z :: s, h, x, hx => by
    rw [okArgs, Bool.and_eq_true] at h
    rcases List.mem_cons.1 hx with rfl | hx
    · have h1 := h.1
      rw [okArg, Bool.and_eq_true] at h1
      have := such_small h1.2
      rw [AV.t, size_toList] at this
      exact this
    · exact okArgs_small l s h.2 x hx

theorem pas_take (l : List AV) (j : Nat) (x : AV) (h : l[j]? = some x) : pas (l.take (j + 1)) = pas (l.take j) ++ pa x := by
  rw [List.take_add_one, h, pas_append]
  simp [pas]

theorem pas_take_le (l : List AV) (j : Nat) : (pas (l.take j)).length ≤ (pas l).length := by
  conv => rhs; rw [← List.take_append_drop j l]
  rw [pas_append, List.length_append]
  omega

/-- What is put. -/
def putE (o p : Int) (l : List AV) (s : List UInt8) : Nat := if chk o p l s then (if 4088 < (pas l).length then 4 else 0) else 1
def putB (o p : Int) (l : List AV) : List UInt8 := le4 (m32 o) ++ (le4 ((8 + (pas l).length) * 65536 + p.toNat) ++ pas l)

/-- Its bytes, in new memory; or nil. -/
def PutIs (base : Nat) (w : World) (E : Nat) (b : List UInt8) (v : Value) : Prop := (E = 0 → w.ownsRow base 5 1 v b.length (bc b)) ∧ (E ≠ 0 → v = .slice none 0 0)

theorem or_shift (x y : Nat) (hy : y < 65536) : x * 65536 ||| y = x * 65536 + y := by
  have := Nat.shiftLeft_add_eq_or_of_lt (i := 16) (b := y) hy x
  rw [Nat.shiftLeft_eq] at this
  exact this.symm

set_option maxRecDepth 100000 in
theorem put_fail (o p : Int) (a : Option Addr) (n c : Nat) (s : ByteArray) (w : World) (es : List Addr)
    (H : ∀ u, Below w.heap.size w u → Calls Tryd.prog 20 #[.agg #[.int .i64 o, .int .i64 p, .slice a n c], .string s] u fun e w' => ∃ r, e = .returned r ∧ Er es r 1 ∧ Below u.heap.size u w') :
    Calls Tryd.prog 11 #[.agg #[.int .i64 o, .int .i64 p, .slice a n c], .string s] w fun e w' => ∃ r, e = .returned (.tuple #[.slice none 0 0, r]) ∧ Er es r 1 ∧ Below w.heap.size w w' := by
  have H' : Hid (∀ x, Calls Tryd.prog 20 #[.agg #[.int .i64 o, .int .i64 p, .slice a n c], .string s] (w.alloc x) fun e w' => ∃ t v, e = .returned (.iface t v) ∧ Er es (.iface t v) 1 ∧ Below w.heap.size w w') := fun x => by
    have hb : Below w.heap.size w (w.alloc x) := (Below.refl _ _).alloc (Nat.le_refl _) x
    refine (H _ hb).mono ?_
    rintro e w' ⟨r, rfl, he, hb'⟩
    obtain ⟨t, v, rfl⟩ := he.some
    exact ⟨t, v, rfl, he, hb.trans (hb'.mono hb.size)⟩
  clear H
  go_enter Tryd.func11, Tryd.ntmps11
  go_wp2_with fail
  refine (H'.out _).mono ?_
  rintro e w1 ⟨t, v, rfl, he, b1⟩
  have HE : Hid (Er es (.iface t v) 1) := he
  clear he H'
  go_wp2
  go_ret2
  exact ⟨_, rfl, HE.out, b1⟩

set_option maxRecDepth 100000 in
set_option maxHeartbeats 4000000 in
theorem put_main (o p : Int) (a : Option Addr) (n c : Nat) (l : List AV) (s : ByteArray) (w : World) (hr : RdA w a n c l) (hn : n ≤ 1152921504606846976) (es : List Addr) (hB : w.cell? ⟨0, 0, none⟩ = some (erv es 4))
    (hp : 0 ≤ p ∧ p ≤ 65535) (hsm : ∀ x ∈ l, x.s.size ≤ 200)
    (H : ∀ u, Below w.heap.size w u → Calls Tryd.prog 20 #[.agg #[.int .i64 o, .int .i64 p, .slice a n c], .string s] u fun e w' => e = .returned .nilIface ∧ Below u.heap.size u w') :
    Calls Tryd.prog 11 #[.agg #[.int .i64 o, .int .i64 p, .slice a n c], .string s] w fun e w' => ∃ v r, e = .returned (.tuple #[v, r]) ∧ Er es r (if 4088 < (pas l).length then 4 else 0) ∧ PutIs w.heap.size w' (if 4088 < (pas l).length then 4 else 0) (putB o p l) v ∧ Below w.heap.size w w' := by
  obtain ⟨i0, hi, hz0, hz1, hz2⟩ := info_parts infoU8
  obtain ⟨q, rfl⟩ := Int.eq_ofNat_of_zero_le hp.1
  have hq : q < 65536 := by omega
  have hw := World.block_lt_of_cell? w _ hB
  have H' : Hid (∀ x, Calls Tryd.prog 20 #[.agg #[.int .i64 o, .int .i64 q, .slice a n c], .string s] (w.alloc x) fun e w' => e = .returned .nilIface ∧ Below (w.alloc x).heap.size (w.alloc x) w') := fun x => H _ ((Below.refl _ _).alloc (Nat.le_refl _) x)
  have HR : Hid (RdA w a n c l) := hr
  have HB : Hid (w.cell? ⟨0, 0, none⟩ = some (erv es 4)) := hB
  have HM : Hid (∀ x ∈ l, x.s.size ≤ 200) := hsm
  have hlen := hr.len
  generalize hE : (if 4088 < (pas l).length then 4 else 0 : Nat) = E
  have HE : Hid ((4088 < (pas l).length → E = 4) ∧ ((pas l).length ≤ 4088 → E = 0)) := by
    subst hE
    exact ⟨fun h => if_pos h, fun h => if_neg (by omega)⟩
  clear H hr hB hsm hE hp
  go_enter Tryd.func11, Tryd.ntmps11
  go_wp2_with fail
  refine (H'.out _).mono ?_
  rintro e w1 ⟨rfl, b1⟩
  have k0 : w1.cell? ⟨w.heap.size, 0, none⟩ = some (.int .i64 o) := by rw [b1.cell (by simp)]; simp
  have k1 : w1.cell? ⟨w.heap.size, 1, none⟩ = some (.int .i64 q) := by rw [b1.cell (by simp)]; simp
  have k2 : w1.cell? ⟨w.heap.size, 2, none⟩ = some (.slice a n c) := by rw [b1.cell (by simp)]; simp
  have HB1 : Hid (Below w.heap.size w w1 ∧ w.heap.size < w1.heap.size) := by
    have hb : Below w.heap.size w (w.alloc (.cells #[.int .i64 o, .int .i64 q, .slice a n c] 24)) := (Below.refl _ _).alloc (Nat.le_refl _) _
    refine ⟨hb.trans (b1.mono hb.size), ?_⟩
    have := b1.size
    simp at this
    omega
  clear b1 H'
  go_wp2
  go_loopw [7, 20] (fun v i wr => ∃ j : Nat, j ≤ n ∧ i = .int .i64 j ∧ wr.ownsRow w1.heap.size 5 1 v (pas (l.take j)).length (bc (pas (l.take j))) ∧ (pas (l.take j)).length ≤ 4088 ∧ Below w1.heap.size w1 wr)
    (fun _ i _ => n - (intOf i).toNat)
  case atStart => exact ⟨0, Nat.zero_le _, rfl, World.ownsRow_nil _ _ _ _, by simp [pas], Below.refl _ _⟩
  case round =>
    obtain ⟨j, hj, rfl, ho, hl, hb⟩ := hrel
    by_cases hlt : j < n
    · obtain ⟨b, off, rfl, hbs, hc⟩ := HR.out.plain (by omega)
      obtain ⟨x, hx⟩ : ∃ x, l[j]? = some x := ⟨_, List.getElem?_eq_getElem (by omega)⟩
      obtain ⟨c0, c1, c2⟩ := hc j x hx
      have hbw : Below w.heap.size w wr := Below.on HB1.out.1 hb
      rw [← hbw.cell (World.block_lt_of_cell? w _ c0)] at c0
      rw [← hbw.cell (World.block_lt_of_cell? w _ c1)] at c1
      rw [← hbw.cell (World.block_lt_of_cell? w _ c2)] at c2
      have hT := pas_take l j x hx
      have hTl := pas_take_le l (j + 1)
      have hxs := HM.out x (List.mem_of_getElem? hx)
      have hpl := pa_le x (by omega)
      have HP : Hid (∀ o', Calls Tryd.prog 26 #[.agg #[.int .u8 x.k, .int .i64 x.n, .string x.s]] (wr.alloc o') fun e w' => ∃ r, e = .returned r ∧ w'.ownsRow wr.heap.size 5 1 r (pa x).length (bc (pa x)) ∧ Below wr.heap.size wr w') := fun o' => by
        have hbo : Below wr.heap.size wr (wr.alloc o') := (Below.refl _ _).alloc (Nat.le_refl _) o'
        refine (putArg_any x (by omega) _).mono ?_
        rintro e w' ⟨r, rfl, ho, hb⟩
        exact ⟨_, rfl, ownsRow_low ho hbo.size, hbo.trans (hb.mono hbo.size)⟩
      have HT : Hid (pas (l.take (j + 1)) = pas (l.take j) ++ pa x ∧ (pas (l.take (j + 1))).length ≤ (pas l).length) := ⟨hT, hTl⟩
      have HO : Hid _ := ho
      have HBW : Hid (Below w1.heap.size w1 wr) := hb
      have hbsz := hb.size
      obtain ⟨va, vc, hv, _, _⟩ := rd_of_owns ho
      subst hv
      clear hT hTl hx hxs hc hbs ho hb hbw
      generalize pas (l.take j) = Bj at *
      generalize hBJ : pas (l.take (j + 1)) = Bn at *
      go_wp2_with fail
      refine (HP.out _).mono ?_
      rintro e w2 ⟨r2, rfl, o2, b2⟩
      obtain ⟨a2, d2, rfl, q2, _⟩ := rd_of_owns o2
      have ho2 := ownsRow_below HO.out b2
      have hbw2 : Below w1.heap.size w1 w2 := HBW.out.trans (b2.mono hbsz)
      have HS : Hid (Src Tryd.prog 1 27 (.slice a2 (pa x).length d2) (pa x).length (bc (pa x)) w2) := q2.src Tryd.underlying27
      clear o2 q2 b2 HP c0 c1 c2
      have hBN : Bn.length ≤ 200000 := by rw [HT.out.1, List.length_append]; omega
      have HL : Hid (Bj.length + (pa x).length = Bn.length) := by rw [Hid, HT.out.1, List.length_append]
      have HF : Hid (∀ v u, u.ownsRow w1.heap.size 5 1 v (Bj.length + (pa x).length) (bc Bj ++ bc (pa x)) → w2.grownBy u (Value.slice va Bj.length vc).ownBlock → ∃ a3 d3, v = .slice a3 Bn.length d3 ∧ u.ownsRow w1.heap.size 5 1 v Bn.length (bc Bn) ∧ Below w1.heap.size w1 u) := fun v u o3 g3 => by
        have hb3 : Below w1.heap.size w1 u := hbw2.grown g3 hbw2.size (row_lt ho2)
        rw [← bc_append, ← HT.out.1, HL.out] at o3
        obtain ⟨a3, d3, hv3, _, _⟩ := rd_of_owns o3
        exact ⟨a3, d3, hv3, o3, hb3⟩
      have HG : Hid (∀ u, Below w1.heap.size w1 u → Below w.heap.size w u ∧ u.cell? ⟨0, 0, none⟩ = some (erv es 4)) := fun u hb3 => by
        have hb := Below.on HB1.out.1 hb3
        exact ⟨hb, by rw [hb.cell hw]; exact HB.out⟩
      generalize hM : Bn.length = M at *
      have HM' : Hid (Bn.length = M) := hM
      clear hM
      by_cases hbig : 4088 < M
      · have e1 : decide ((4096 : Int) < 8 + M) = true := decide_eq_true (by omega)
        have hE4 : E = 4 := HE.out.1 (by have := HT.out.2; omega)
        have HE4 : Hid (E = 4) := hE4
        clear hE4 HE HT HO
        go_wp2_with (at_builtin; refine wpList_append_own_src _ rfl (.tmp 24) (.tmp 26) 27 27 rfl w1.heap.size 5 i0 (.int .u8 0) 1 1 Tryd.underlying27 hi hz0 hz1 hz2 rfl _ _ _ rfl ho2 _ _ _ rfl HS.out (by simp only [maxLen]; omega) (fits1 (by omega)) hbw2.size ?_; intro v3 w3 o3 g3; obtain ⟨a3, d3, rfl, ho3, hb3⟩ := HF.out _ _ o3 g3; obtain ⟨hbw3, hB3⟩ := HG.out _ hb3; clear o3 g3 HF HG ho2 HS hbw2 ho3)
        go_quiet (fail)
        go_wp2
        go_ret2
        refine ⟨_, _, rfl, ?_, ?_, below_drewN hbw3 _⟩
        · rw [HE4.out]; exact .inl rfl
        · rw [HE4.out]; exact ⟨fun h => (by cases h), fun _ => rfl⟩
      · have e1 : decide ((4096 : Int) < 8 + M) = false := decide_eq_false (by omega)
        clear HE HT HO
        go_wp2_with (at_builtin; refine wpList_append_own_src _ rfl (.tmp 24) (.tmp 26) 27 27 rfl w1.heap.size 5 i0 (.int .u8 0) 1 1 Tryd.underlying27 hi hz0 hz1 hz2 rfl _ _ _ rfl ho2 _ _ _ rfl HS.out (by simp only [maxLen]; omega) (fits1 (by omega)) hbw2.size ?_; intro v3 w3 o3 g3; obtain ⟨a3, d3, rfl, ho3, hb3⟩ := HF.out _ _ o3 g3; have O3 : Hid _ := ho3; clear o3 g3 HF HG ho2 HS hbw2 ho3)
        go_roundw
        case rel => exact ⟨j + 1, by omega, by go_num, by rw [hBJ, HM'.out]; exact O3.out, by rw [hBJ, HM'.out]; omega, hb3⟩
        case measure => simp [intOf]; omega
    · have hjn : j = n := by omega
      have hT : l.take j = l := List.take_of_length_le (by omega)
      rw [hT] at ho hl
      have HE0 : Hid (E = 0) := HE.out.2 hl
      have hbw : Below w.heap.size w wr := Below.on HB1.out.1 hb
      have m0 : wr.cell? ⟨w.heap.size, 0, none⟩ = some (.int .i64 o) := by rw [hb.cell HB1.out.2]; exact k0
      have m1 : wr.cell? ⟨w.heap.size, 1, none⟩ = some (.int .i64 q) := by rw [hb.cell HB1.out.2]; exact k1
      obtain ⟨va, vc, hv, _, _⟩ := rd_of_owns ho
      subst hv
      have HO : Hid _ := ho
      have HW : Hid (w.heap.size < wr.heap.size) := by have := hb.size; have := HB1.out.2; simp only [Hid]; omega
      have HBW : Hid (Below w.heap.size w wr) := hbw
      have HP : Hid (Calls Tryd.prog 27 #[.slice none 0 0, .int .u32 (o % 4294967296)] wr fun e w' => ∃ r, e = .returned r ∧ w'.ownsRow wr.heap.size 5 1 r 4 (bc (le4 (m32 o))) ∧ Below wr.heap.size wr w') := by
        rw [Hid, ← m32_cast]
        refine (put_any wr none 0 0 [] (Rd.nil _) (m32 o) (m32_lt o) (by decide)).mono ?_
        rintro e w' ⟨r, rfl, ho, hb⟩
        exact ⟨_, rfl, ho, hb⟩
      clear hT ho hb hbw k0 k1 k2 HR HM HB1 HE HB
      generalize hBL : (pas l).length = N at *
      go_wp2_with fail
      refine HP.out.mono ?_
      rintro e w4 ⟨r4, rfl, o4, b4⟩
      obtain ⟨a4, c4, rfl, q4, k4⟩ := rd_of_owns o4
      have n1 : w4.cell? ⟨w.heap.size, 1, none⟩ = some (.int .i64 q) := by rw [b4.cell HW.out]; exact m1
      have ho4 := ownsRow_below HO.out b4
      have Q4 : Hid (Rd w4 a4 4 c4 (le4 (m32 o))) := q4
      have HBW4 : Hid (Below w.heap.size w w4) := Below.on HBW.out b4
      have HO4 : Hid _ := ho4
      clear o4 q4 k4 b4 ho4 HO HBW HP m0 m1
      have HOR : Hid (bits BinOp.or IntKind.u32 ((8 + (N : Int)) * 65536) (q : Int) = (((8 + N) * 65536 + q : Nat) : Int)) := by
        simp only [Hid]
        rw [show ((8 + (N : Int)) * 65536) = (((8 + N) * 65536 : Nat) : Int) by omega, u32_or_nat _ _ (by omega) (by omega), or_shift _ _ hq]
      have HP2 : Hid (Calls Tryd.prog 27 #[.slice a4 4 c4, .int .u32 (bits BinOp.or IntKind.u32 ((8 + (N : Int)) * 65536) (q : Int))] w4 fun e w' => ∃ r, e = .returned r ∧ w'.ownsRow w4.heap.size 5 1 r (4 + 4) (bc (le4 (m32 o) ++ le4 ((8 + N) * 65536 + q))) ∧ Below w4.heap.size w4 w') := by
        rw [HOR.out]
        exact put_any w4 a4 4 c4 _ Q4.out _ (by omega) (by decide)
      clear HOR Q4
      go_wp2_with fail
      refine HP2.out.mono ?_
      rintro e w5 ⟨r5, rfl, o5, b5⟩
      have ho5 := ownsRow_below HO4.out b5
      obtain ⟨va', vc', hv', q5, _⟩ := rd_of_owns ho5
      obtain ⟨rfl, rfl⟩ : va = va' ∧ vc = vc' := by cases hv'; exact ⟨rfl, rfl⟩
      have HS : Hid (Src Tryd.prog 1 27 (.slice va N vc) N (bc (pas l)) w5) := q5.src Tryd.underlying27
      have HBW5 : Hid (Below w.heap.size w w5) := Below.on HBW4.out b5
      have HW5 : Hid (w.heap.size ≤ w4.heap.size) := HBW4.out.size
      have s5 := b5.size
      clear b5 ho5 q5 HO4 HBW4 HP2 hv'
      go_wp2_with (at_builtin; refine wpList_append_own_src _ rfl (.tmp 49) (.tmp 50) 27 27 rfl w4.heap.size 5 i0 (.int .u8 0) 1 1 Tryd.underlying27 hi hz0 hz1 hz2 rfl _ _ _ rfl o5 _ _ _ rfl HS.out (by simp only [maxLen]; omega) (fits1 (by omega)) s5 ?_; intro v6 w6 o6 g6)
      have hb6 : Below w.heap.size w w6 := HBW5.out.grown g6 HBW5.out.size (fun k hk => Nat.le_trans HW5.out (row_lt o5 k hk))
      rw [← bc_append] at o6
      go_ret2
      refine ⟨_, _, rfl, ?_, ?_, hb6⟩
      · rw [HE0.out]; exact .inl rfl
      · rw [HE0.out]
        refine ⟨fun _ => ?_, fun h => absurd rfl h⟩
        have e1 : putB o q l = le4 (m32 o) ++ le4 ((8 + N) * 65536 + q) ++ pas l := by rw [putB, hBL, Int.toNat_natCast, List.append_assoc]
        have e2 : (putB o q l).length = 4 + 4 + N := by rw [e1, List.length_append, List.length_append, hBL]; rfl
        rw [e2, e1]
        exact ownsRow_low o6 HW5.out

theorem Put_two (o p : Int) (a : Option Addr) (n c : Nat) (l : List AV) (s : ByteArray) (w : World) (hr : RdA w a n c l) (hm : Small l) (hn : n ≤ 1152921504606846976) (es : List Addr) (hA : w.cell? ⟨2, 0, none⟩ = some (erv es 1)) (hB : w.cell? ⟨0, 0, none⟩ = some (erv es 4)) :
    Calls Tryd.prog 11 #[.agg #[.int .i64 o, .int .i64 p, .slice a n c], .string s] w fun e w' => ∃ v r, e = .returned (.tuple #[v, r]) ∧ Er es r (putE o p l s.data.toList) ∧ PutIs w.heap.size w' (putE o p l s.data.toList) (putB o p l) v ∧ Below w.heap.size w w' := by
  have hC : ∀ u, Below w.heap.size w u → Calls Tryd.prog 20 #[.agg #[.int .i64 o, .int .i64 p, .slice a n c], .string s] u fun e w' => ∃ r, e = .returned r ∧ Er es r (noB (chk o p l s.data.toList)) ∧ Below u.heap.size u w' := fun u hu =>
    check_any o p a n c l s u (hr.below hu hr.low) hm hn es (by rw [hu.cell (World.block_lt_of_cell? w _ hA)]; exact hA)
  cases hk : chk o p l s.data.toList with
  | false =>
    rw [hk] at hC
    have e1 : putE o p l s.data.toList = 1 := by rw [putE, hk]; rfl
    rw [e1]
    refine (put_fail o p a n c s w es hC).mono ?_
    rintro e w' ⟨r, rfl, h1, h2⟩
    exact ⟨_, _, rfl, h1, ⟨fun h => (by cases h), fun _ => rfl⟩, h2⟩
  | true =>
    rw [hk] at hC
    have e1 : putE o p l s.data.toList = if 4088 < (pas l).length then 4 else 0 := by rw [putE, hk]; rfl
    rw [e1]
    have hk' := hk
    rw [chk, Bool.and_eq_true] at hk'
    have hh : 1 ≤ o ∧ o ≤ 4294967295 ∧ 0 ≤ p ∧ p ≤ 65535 := by simpa [headOk] using hk'.1
    refine put_main o p a n c l s w hr hn es hB hh.2.2 (okArgs_small l _ hk'.2) fun u hu => ?_
    refine (hC u hu).mono ?_
    rintro e w' ⟨r, rfl, h1, h2⟩
    rw [h1.nil]
    exact ⟨rfl, h2⟩

theorem Put_any (o p : Int) (a : Option Addr) (n c : Nat) (l : List AV) (s : ByteArray) (w : World) (hr : RdA w a n c l) (hm : Small l) (hn : n ≤ 1152921504606846976) (es : List Addr) (hE : E4 w es) :
    Calls Tryd.prog 11 #[.agg #[.int .i64 o, .int .i64 p, .slice a n c], .string s] w fun e w' => ∃ v r, e = .returned (.tuple #[v, r]) ∧ Er es r (putE o p l s.data.toList) ∧ PutIs w.heap.size w' (putE o p l s.data.toList) (putB o p l) v ∧ Below w.heap.size w w' :=
  Put_two o p a n c l s w hr hm hn es hE.arg hE.big
end Go.Proofs.YtoggnfadfocogaaDoor
