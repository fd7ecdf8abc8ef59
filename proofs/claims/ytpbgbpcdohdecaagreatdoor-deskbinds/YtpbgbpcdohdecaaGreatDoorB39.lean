/- Lemmas that the proof leans on. -/
import Derived.Test.YtpbgbpcdohdecaaGreatDoorB38
namespace Go.Proofs.YtpbgbpcdohdecaaGreatDoor
open Go Go.RowKit
set_option maxRecDepth 100000
set_option maxHeartbeats 1000000
section
theorem pas_le : ∀ l : List AV, (∀ x ∈ l, x.s.size ≤ 200) → (pas l).length ≤ l.length * 100010
 | [], _ => by simp [pas]
 | x :: l, h => by
  have h1 := pa_le x (by have := h x (List.mem_cons_self ..); omega)
  have h2 := pas_le l (fun y hy => h y (List.mem_cons_of_mem _ hy))
  rw [pas_cons, List.length_append, List.length_cons]
  omega
theorem u32_nat {x : Int} {n : Nat} (h : n < 4294967296) (hx : x = n) : IntKind.u32.wrap x = (n : Int) := by
 subst hx
 simp [IntKind.wrap, IntKind.signed, IntKind.bits]
 omega
theorem rput_fail (o q : Int) (a : Option Addr) (n c : Nat) (s : ByteArray) (w : World)
  (H : ∀ u, Below w.heap.size w u → Calls Tryz.prog 104 #[.agg #[.int .i64 o, .int .i64 q, .slice a n c], .string s] u fun e w' => e = .returned (.int .i64 (1 : Nat)) ∧ Below u.heap.size u w') :
  Calls Tryz.prog 58 #[.agg #[.int .i64 o, .int .i64 q, .slice a n c], .string s] w fun e w' => e = .returned (.tuple #[.slice none 0 0, .int .i64 (1 : Nat)]) ∧ Below w.heap.size w w' := by
 have H' : Hid (∀ x, Calls Tryz.prog 104 #[.agg #[.int .i64 o, .int .i64 q, .slice a n c], .string s] (w.alloc x) fun e w' => e = .returned (.int .i64 (1 : Nat)) ∧ Below w.heap.size w w') := fun x => by
  have hb : Below w.heap.size w (w.alloc x) := (Below.refl _ _).alloc (Nat.le_refl _) x
  refine (H _ hb).mono ?_
  rintro e w' ⟨rfl, hb'⟩
  exact ⟨rfl, hb.trans (hb'.mono hb.size)⟩
 clear H
 go_enter Tryz.func58, Tryz.ntmps58
 go_wp2_with fail
 refine (H'.out _).mono ?_
 rintro e w1 ⟨rfl, b1⟩
 go_wp2
 go_ret2
 exact ⟨rfl, b1⟩
theorem rput_main (o p : Int) (a : Option Addr) (n c : Nat) (l : List AV) (s : ByteArray) (w : World) (hr : RdA w a n c l) (hn : n ≤ 1000000) (hp : 0 ≤ p ∧ p ≤ 65535) (hsm : ∀ x ∈ l, x.s.size ≤ 200)
  (H : ∀ u, Below w.heap.size w u → Calls Tryz.prog 104 #[.agg #[.int .i64 o, .int .i64 p, .slice a n c], .string s] u fun e w' => e = .returned (.int .i64 (0 : Nat)) ∧ Below u.heap.size u w') :
  Calls Tryz.prog 58 #[.agg #[.int .i64 o, .int .i64 p, .slice a n c], .string s] w fun e w' => ∃ v, e = .returned (.tuple #[v, .int .i64 (if 4088 < (pas l).length then 4 else 0 : Nat)]) ∧ PutIs w.heap.size w' (if 4088 < (pas l).length then 4 else 0) (putB o p l) v ∧ Below w.heap.size w w' := by
 obtain ⟨i0, hi, hz0, hz1, hz2⟩ := info_parts infoU8_WordA
 obtain ⟨q, rfl⟩ := Int.eq_ofNat_of_zero_le hp.1
 have hq : q < 65536 := by omega
 have H' : Hid (∀ x, Calls Tryz.prog 104 #[.agg #[.int .i64 o, .int .i64 q, .slice a n c], .string s] (w.alloc x) fun e w' => e = .returned (.int .i64 (0 : Nat)) ∧ Below (w.alloc x).heap.size (w.alloc x) w') := fun x => H _ ((Below.refl _ _).alloc (Nat.le_refl _) x)
 have HR : Hid (RdA w a n c l) := hr
 have HM : Hid (∀ x ∈ l, x.s.size ≤ 200) := hsm
 have hlen := hr.len
 generalize hE : (if 4088 < (pas l).length then 4 else 0 : Nat) = E
 have HE : Hid ((4088 < (pas l).length → E = 4) ∧ ((pas l).length ≤ 4088 → E = 0)) := by
  subst hE
  exact ⟨fun h => if_pos h, fun h => if_neg (by omega)⟩
 clear H hr hsm hE hp
 go_enter Tryz.func58, Tryz.ntmps58
 go_wp2_with fail
 refine (H'.out _).mono ?_
 rintro e w1 ⟨rfl, b1⟩
 have k0 : w1.cell? ⟨w.heap.size, 0, none⟩ = some (.int .i64 o) := by rw [b1.cell (by simp)]; simp
 have k1 : w1.cell? ⟨w.heap.size, 1, none⟩ = some (.int .i64 q) := by rw [b1.cell (by simp)]; simp
 have k2 : w1.cell? ⟨w.heap.size, 2, none⟩ = some (.slice a n c) := by rw [b1.cell (by simp)]; simp
 have HB1 : Hid (Below w.heap.size w w1 ∧ w.heap.size < w1.heap.size) := by
  have hb : Below w.heap.size w (w.alloc (.cells #[.int .i64 o, .int .i64 q, .slice a n c] 42)) := (Below.refl _ _).alloc (Nat.le_refl _) _
  refine ⟨hb.trans (b1.mono hb.size), ?_⟩
  have := b1.size
  simp at this
  omega
 have K2 : Hid (w1.cell? ⟨w.heap.size, 2, none⟩ = some (.slice a n c) ∧ w1.cell? ⟨w.heap.size, 0, none⟩ = some (.int .i64 o) ∧ w1.cell? ⟨w.heap.size, 1, none⟩ = some (.int .i64 q)) := ⟨k2, k0, k1⟩
 clear b1 H'
 go_wp2
 clear k0 k1 k2
 go_loopw [7, 8] (fun v i wr => ∃ j : Nat, j ≤ n ∧ i = .int .i64 j ∧ wr.ownsRow w1.heap.size 5 1 v (pas (l.take j)).length (bc (pas (l.take j))) ∧ Below w1.heap.size w1 wr)
  (fun _ i _ => n - (RowKit.intOf i).toNat)
 case atStart => exact ⟨0, Nat.zero_le _, rfl, World.ownsRow_nil _ _ _ _, Below.refl _ _⟩
 case round =>
  obtain ⟨j, hj, rfl, ho, hb⟩ := hrel
  have hpl1 := pas_le (l.take j) (fun y hy => HM.out y (List.mem_of_mem_take hy))
  rw [List.length_take] at hpl1
  have k2 : wr.cell? ⟨w.heap.size, 2, none⟩ = some (.slice a n c) := by rw [hb.cell HB1.out.2]; exact K2.out.1
  by_cases hlt : j < n
  ·obtain ⟨b, off, rfl, hbs, hc⟩ := HR.out.plain (by omega)
   obtain ⟨x, hx⟩ : ∃ x, l[j]? = some x := ⟨_, List.getElem?_eq_getElem (by omega)⟩
   obtain ⟨c0, c1, c2⟩ := hc j x hx
   have hbw : Below w.heap.size w wr := Below.on HB1.out.1 hb
   rw [← hbw.cell (World.block_lt_of_cell? w _ c0)] at c0
   rw [← hbw.cell (World.block_lt_of_cell? w _ c1)] at c1
   rw [← hbw.cell (World.block_lt_of_cell? w _ c2)] at c2
   have hT := pas_take l j x hx
   have hxs := HM.out x (List.mem_of_getElem? hx)
   have hpl := pa_le x (by omega)
   have HT : Hid (pas (l.take (j + 1)) = pas (l.take j) ++ pa x ∧ True) := ⟨hT, trivial⟩
   have HO : Hid _ := ho
   have HBW : Hid (Below w1.heap.size w1 wr) := hb
   have hbsz := hb.size
   have hjn : (j : Int) < n := by omega
   have hPj : (pas (l.take j)).length ≤ 200000000000 := by omega
   obtain ⟨va, vc, hv, _, _⟩ := rd_of_owns ho
   subst hv
   clear hT hx hc hbs ho hb hbw hpl1
   generalize pas (l.take j) = Bj at *
   generalize hBJ : pas (l.take (j + 1)) = Bn at *
   have HL : Hid (Bj.length + (pa x).length = Bn.length) := by rw [Hid, HT.out.1, List.length_append]
   by_cases h1 : x.k = 115
   ·have e1 : ((x.k : Int) == 115) = true := by rw [beq_iff_eq]; omega
    have HP : Hid (Calls Tryz.prog 105 #[.string x.s] wr fun e w' => ∃ r, e = .returned r ∧ w'.ownsRow wr.heap.size 5 1 r (pa x).length (bc (pa x)) ∧ Below wr.heap.size wr w') := by
     have hp : pa x = putl (x.s.data.toList ++ [0]) := by rw [pa, if_pos h1]; rfl
     rw [hp]
     exact rPutText_any wr x.s (by omega)
    clear h1
    go_wp2_with fail
    refine (HP.out).mono ?_
    rintro e w2 ⟨r2, rfl, o2, b2⟩
    obtain ⟨a2, d2, rfl, q2, _⟩ := rd_of_owns o2
    have ho2 := ownsRow_below HO.out b2
    have hbw2 : Below w1.heap.size w1 w2 := HBW.out.trans (b2.mono hbsz)
    have HS : Hid (Src Tryz.prog 1 148 (.slice a2 (pa x).length d2) (pa x).length (bc (pa x)) w2) := q2.src Tryz.underlying148
    have HF : Hid (∀ v u, u.ownsRow w1.heap.size 5 1 v (Bj.length + (pa x).length) (bc Bj ++ bc (pa x)) → w2.grownBy u (Value.slice va Bj.length vc).ownBlock → u.ownsRow w1.heap.size 5 1 v Bn.length (bc Bn) ∧ Below w1.heap.size w1 u) := fun v u o3 g3 => by
     have hb3 : Below w1.heap.size w1 u := hbw2.grown g3 hbw2.size (row_lt_WordB ho2)
     rw [← bc_append, ← HT.out.1, HL.out] at o3
     exact ⟨o3, hb3⟩
    clear o2 q2 b2 c0 c1 c2 k2
    go_wp2_with (at_builtin; refine wpList_append_own_src _ rfl (.tmp 42) (.tmp 49) 148 148 rfl w1.heap.size 5 i0 (.int .u8 0) 1 1 Tryz.underlying148 hi hz0 hz1 hz2 rfl _ _ _ rfl ho2 _ _ _ rfl HS.out (by simp only [maxLen]; omega) (fits1 (by omega)) hbw2.size ?_; intro v3 w3 o3 g3; obtain ⟨ho3, hb3⟩ := HF.out _ _ o3 g3; have O3 : Hid _ := ho3; clear o3 g3 HF ho2 HS hbw2 ho3)
    go_roundw
    case rel => exact ⟨j + 1, by omega, by go_num, by rw [hBJ]; exact O3.out, hb3⟩
    case measure => simp [RowKit.intOf]; omega
   by_cases h2 : x.k = 97
   ·have e1 : ((x.k : Int) == 115) = false := beq_eq_false_iff_ne.2 (by omega)
    have e2 : ((x.k : Int) == 97) = true := by rw [beq_iff_eq]; omega
    have HP : Hid (Calls Tryz.prog 106 #[.string x.s] wr fun e w' => ∃ r, e = .returned r ∧ w'.ownsRow wr.heap.size 5 1 r (pa x).length (bc (pa x)) ∧ Below wr.heap.size wr w') := by
     have hp : pa x = putl x.s.data.toList := by rw [pa, if_neg h1, if_pos h2]; rfl
     rw [hp]
     exact rPutList_any wr x.s (by omega)
    clear h1 h2
    go_wp2_with fail
    refine (HP.out).mono ?_
    rintro e w2 ⟨r2, rfl, o2, b2⟩
    obtain ⟨a2, d2, rfl, q2, _⟩ := rd_of_owns o2
    have ho2 := ownsRow_below HO.out b2
    have hbw2 : Below w1.heap.size w1 w2 := HBW.out.trans (b2.mono hbsz)
    have HS : Hid (Src Tryz.prog 1 148 (.slice a2 (pa x).length d2) (pa x).length (bc (pa x)) w2) := q2.src Tryz.underlying148
    have HF : Hid (∀ v u, u.ownsRow w1.heap.size 5 1 v (Bj.length + (pa x).length) (bc Bj ++ bc (pa x)) → w2.grownBy u (Value.slice va Bj.length vc).ownBlock → u.ownsRow w1.heap.size 5 1 v Bn.length (bc Bn) ∧ Below w1.heap.size w1 u) := fun v u o3 g3 => by
     have hb3 : Below w1.heap.size w1 u := hbw2.grown g3 hbw2.size (row_lt_WordB ho2)
     rw [← bc_append, ← HT.out.1, HL.out] at o3
     exact ⟨o3, hb3⟩
    clear o2 q2 b2 c0 c1 c2 k2
    go_wp2_with (at_builtin; refine wpList_append_own_src _ rfl (.tmp 53) (.tmp 60) 148 148 rfl w1.heap.size 5 i0 (.int .u8 0) 1 1 Tryz.underlying148 hi hz0 hz1 hz2 rfl _ _ _ rfl ho2 _ _ _ rfl HS.out (by simp only [maxLen]; omega) (fits1 (by omega)) hbw2.size ?_; intro v3 w3 o3 g3; obtain ⟨ho3, hb3⟩ := HF.out _ _ o3 g3; have O3 : Hid _ := ho3; clear o3 g3 HF ho2 HS hbw2 ho3)
    go_roundw
    case rel => exact ⟨j + 1, by omega, by go_num, by rw [hBJ]; exact O3.out, hb3⟩
    case measure => simp [RowKit.intOf]; omega
   ·have e1 : ((x.k : Int) == 115) = false := beq_eq_false_iff_ne.2 (by omega)
    have e2 : ((x.k : Int) == 97) = false := beq_eq_false_iff_ne.2 (by omega)
    have HP : Hid (Calls Tryz.prog 107 #[.int .u32 (x.n % 4294967296)] wr fun e w' => ∃ r, e = .returned r ∧ w'.ownsRow wr.heap.size 5 1 r (pa x).length (bc (pa x)) ∧ Below wr.heap.size wr w') := by
     have hp : pa x = le4 (m32 x.n) := by rw [pa, if_neg h1, if_neg h2]
     rw [hp, ← m32_cast]
     exact rPut_any_RefA wr (m32 x.n) (m32_lt _)
    clear h1 h2
    go_wp2_with fail
    refine (HP.out).mono ?_
    rintro e w2 ⟨r2, rfl, o2, b2⟩
    obtain ⟨a2, d2, rfl, q2, _⟩ := rd_of_owns o2
    have ho2 := ownsRow_below HO.out b2
    have hbw2 : Below w1.heap.size w1 w2 := HBW.out.trans (b2.mono hbsz)
    have HS : Hid (Src Tryz.prog 1 148 (.slice a2 (pa x).length d2) (pa x).length (bc (pa x)) w2) := q2.src Tryz.underlying148
    have HF : Hid (∀ v u, u.ownsRow w1.heap.size 5 1 v (Bj.length + (pa x).length) (bc Bj ++ bc (pa x)) → w2.grownBy u (Value.slice va Bj.length vc).ownBlock → u.ownsRow w1.heap.size 5 1 v Bn.length (bc Bn) ∧ Below w1.heap.size w1 u) := fun v u o3 g3 => by
     have hb3 : Below w1.heap.size w1 u := hbw2.grown g3 hbw2.size (row_lt_WordB ho2)
     rw [← bc_append, ← HT.out.1, HL.out] at o3
     exact ⟨o3, hb3⟩
    clear o2 q2 b2 c0 c1 c2 k2
    go_wp2_with (at_builtin; refine wpList_append_own_src _ rfl (.tmp 30) (.tmp 38) 148 148 rfl w1.heap.size 5 i0 (.int .u8 0) 1 1 Tryz.underlying148 hi hz0 hz1 hz2 rfl _ _ _ rfl ho2 _ _ _ rfl HS.out (by simp only [maxLen]; omega) (fits1 (by omega)) hbw2.size ?_; intro v3 w3 o3 g3; obtain ⟨ho3, hb3⟩ := HF.out _ _ o3 g3; have O3 : Hid _ := ho3; clear o3 g3 HF ho2 HS hbw2 ho3)
    go_roundw
    case rel => exact ⟨j + 1, by omega, by go_num, by rw [hBJ]; exact O3.out, hb3⟩
    case measure => simp [RowKit.intOf]; omega
  ·have hjn : j = n := by omega
   have hT : l.take j = l := List.take_of_length_le (by omega)
   rw [hT] at ho
   have hPl := pas_le l HM.out
   have hbw : Below w.heap.size w wr := Below.on HB1.out.1 hb
   have m0 : wr.cell? ⟨w.heap.size, 0, none⟩ = some (.int .i64 o) := by rw [hb.cell HB1.out.2]; exact K2.out.2.1
   have m1 : wr.cell? ⟨w.heap.size, 1, none⟩ = some (.int .i64 q) := by rw [hb.cell HB1.out.2]; exact K2.out.2.2
   obtain ⟨va, vc, hv, _, _⟩ := rd_of_owns ho
   subst hv
   have HO : Hid _ := ho
   have HW : Hid (w.heap.size < wr.heap.size) := by have := hb.size; have := HB1.out.2; simp only [Hid]; omega
   have HBW : Hid (Below w.heap.size w wr) := hbw
   have HB0 : Hid (w.heap.size ≤ w1.heap.size) := Nat.le_of_lt HB1.out.2
   have hpl2 : (pas l).length ≤ 200000000000 := by omega
   clear hT ho hb hbw HR HM HB1 hpl1 hPl
   by_cases hbig : 4088 < (pas l).length
   ·have e1 : decide ((4096 : Int) < (pas l).length + 8) = true := decide_eq_true (by omega)
    have HE4 : Hid (E = 4) := HE.out.1 hbig
    clear HE hbig
    generalize (pas l).length = N at *
    go_wp2
    go_ret2
    refine ⟨_, by rw [HE4.out]; rfl, ?_, HBW.out⟩
    rw [HE4.out]
    exact ⟨fun h => (by cases h), fun _ => rfl⟩
   ·have e1 : decide ((4096 : Int) < (pas l).length + 8) = false := decide_eq_false (by omega)
    have HE0 : Hid (E = 0) := HE.out.2 (by omega)
    have hN : (pas l).length ≤ 4088 := by omega
    clear HE hbig hpl2
    generalize hBL : (pas l).length = N at *
    go_wp2_with fail
    have tb0 : ∀ x, Below wr.heap.size wr x → x.cell? ⟨w.heap.size, 0, none⟩ = some (.int .i64 o) := fun x hx => by rw [hx.cell HW.out]; exact m0
    have tb1 : ∀ x, Below wr.heap.size wr x → x.cell? ⟨w.heap.size, 1, none⟩ = some (.int .i64 q) := fun x hx => by rw [hx.cell HW.out]; exact m1
    have C3 : Hid (∀ u, Below wr.heap.size wr u → Calls Tryz.prog 107 #[.int .u32 (o % 4294967296)] u fun e w' => ∃ r, e = .returned r ∧ w'.ownsRow wr.heap.size 5 1 r 4 (bc (le4 (m32 o))) ∧ Below u.heap.size u w') := fun u hu => by
     rw [← m32_cast]
     refine (rPut_any_RefA u (m32 o) (m32_lt o)).mono ?_
     rintro e w' ⟨r, rfl, ho, hb⟩
     exact ⟨r, rfl, ownsRow_low ho hu.size, hb⟩
    have C11 : Hid (∀ u, Below wr.heap.size wr u → Calls Tryz.prog 107 #[.int .u32 (IntKind.u32.wrap (IntKind.u32.wrap (IntKind.u32.wrap ((N : Int) + 8) * 65536) + IntKind.u32.wrap (q : Int)))] u fun e w' => ∃ r, e = .returned r ∧ w'.ownsRow wr.heap.size 5 1 r 4 (bc (le4 ((8 + N) * 65536 + q))) ∧ Below u.heap.size u w') := fun u hu => by
     rw [u32_nat (x := (N : Int) + 8) (n := N + 8) (by omega) (by omega), u32_nat (x := ((N + 8 : Nat) : Int) * 65536) (n := (N + 8) * 65536) (by omega) (by omega), u32_nat (x := (q : Int)) (n := q) (by omega) rfl, u32_nat (x := (((N + 8) * 65536 : Nat) : Int) + (q : Int)) (n := (8 + N) * 65536 + q) (by omega) (by omega)]
     refine (rPut_any_RefA u _ (by omega)).mono ?_
     rintro e w' ⟨r, rfl, ho, hb⟩
     exact ⟨r, rfl, ownsRow_low ho hu.size, hb⟩
    clear m0 m1 k2 e1 K2
    refine wp_region_held_drew (S := fun x => Below wr.heap.size wr x) (by kernel_rfl) (Below.refl _ _).drew (fun hHeld => ?_)
    have hHeld : Below wr.heap.size wr wr.drew := hHeld
    refine wpAnyH_take (i := 0) (v := ?_) rfl (by kernel_rfl) (by kernel_rfl) (by kernel_rfl) (fun _ _ _ h => h) (Or.inl ⟨by kernel_rfl, ?hy0⟩) (by assumption) ?_
    case hy0 => (intro w hSw; (try dsimp only at hSw); go_simp; try with_reducible rfl)
    try simp only [Act.put, List.getElem_toArray, List.getElem_cons_zero, List.setIfInBounds_toArray, List.set_cons_zero, List.set_cons_succ]
    refine wpAnyH_take (i := 1) (v := ?_) rfl (by kernel_rfl) (by kernel_rfl) (by kernel_rfl) (fun _ _ _ h => h) (Or.inl ⟨by kernel_rfl, ?hy1⟩) (by assumption) ?_
    case hy1 => (intro w hSw; (try dsimp only at hSw); go_simp; try with_reducible rfl)
    try simp only [Act.put, List.getElem_toArray, List.getElem_cons_zero, List.getElem_cons_succ, List.setIfInBounds_toArray, List.set_cons_zero, List.set_cons_succ]
    refine wpAnyH_take (i := 2) (v := ?_) rfl (by kernel_rfl) (by kernel_rfl) (by kernel_rfl) (fun _ _ _ h => h) (Or.inl ⟨by kernel_rfl, ?hy2⟩) (by assumption) ?_
    case hy2 => (intro w hSw; (try dsimp only at hSw); go_simp; try with_reducible rfl)
    try simp only [Act.put, List.getElem_toArray, List.getElem_cons_zero, List.getElem_cons_succ, List.setIfInBounds_toArray, List.set_cons_zero, List.set_cons_succ]
    refine wpAnyH_take (i := 4) (v := ?_) rfl (by kernel_rfl) (by kernel_rfl) (by kernel_rfl) (fun _ _ _ h => h) (Or.inl ⟨by kernel_rfl, ?hy4⟩) (by assumption) ?_
    case hy4 => (intro w hSw; (try dsimp only at hSw); go_simp; try with_reducible rfl)
    try simp only [Act.put, List.getElem_toArray, List.getElem_cons_zero, List.getElem_cons_succ, List.setIfInBounds_toArray, List.set_cons_zero, List.set_cons_succ]
    refine wpAnyH_take (i := 5) (v := ?_) rfl (by kernel_rfl) (by kernel_rfl) (by kernel_rfl) (fun _ _ _ h => h) (Or.inl ⟨by kernel_rfl, ?hy5⟩) (by assumption) ?_
    case hy5 => (intro w hSw; (try dsimp only at hSw); go_simp; try with_reducible rfl)
    try simp only [Act.put, List.getElem_toArray, List.getElem_cons_zero, List.getElem_cons_succ, List.setIfInBounds_toArray, List.set_cons_zero, List.set_cons_succ]
    refine wpAnyH_take (i := 6) (v := ?_) rfl (by kernel_rfl) (by kernel_rfl) (by kernel_rfl) (fun _ _ _ h => h) (Or.inl ⟨by kernel_rfl, ?hy6⟩) (by assumption) ?_
    case hy6 => (intro w hSw; (try dsimp only at hSw); go_simp; try with_reducible rfl)
    try simp only [Act.put, List.getElem_toArray, List.getElem_cons_zero, List.getElem_cons_succ, List.setIfInBounds_toArray, List.set_cons_zero, List.set_cons_succ]
    refine wpAnyH_take (i := 7) (v := ?_) rfl (by kernel_rfl) (by kernel_rfl) (by kernel_rfl) (fun _ _ _ h => h) (Or.inl ⟨by kernel_rfl, ?hy7⟩) (by assumption) ?_
    case hy7 => (intro w hSw; (try dsimp only at hSw); go_simp; try with_reducible rfl)
    try simp only [Act.put, List.getElem_toArray, List.getElem_cons_zero, List.getElem_cons_succ, List.setIfInBounds_toArray, List.set_cons_zero, List.set_cons_succ]
    refine wpAnyH_take (i := 8) (v := ?_) rfl (by kernel_rfl) (by kernel_rfl) (by kernel_rfl) (fun _ _ _ h => h) (Or.inl ⟨by kernel_rfl, ?hy8⟩) (by assumption) ?_
    case hy8 => (intro w hSw; (try dsimp only at hSw); go_simp; try with_reducible rfl)
    try simp only [Act.put, List.getElem_toArray, List.getElem_cons_zero, List.getElem_cons_succ, List.setIfInBounds_toArray, List.set_cons_zero, List.set_cons_succ]
    refine wpAnyH_take (i := 9) (v := ?_) rfl (by kernel_rfl) (by kernel_rfl) (by kernel_rfl) (fun _ _ _ h => h) (Or.inl ⟨by kernel_rfl, ?hy9⟩) (by assumption) ?_
    case hy9 => (intro w hSw; (try dsimp only at hSw); go_simp; try with_reducible rfl)
    try simp only [Act.put, List.getElem_toArray, List.getElem_cons_zero, List.getElem_cons_succ, List.setIfInBounds_toArray, List.set_cons_zero, List.set_cons_succ]
    refine wpAnyH_take (i := 10) (v := ?_) rfl (by kernel_rfl) (by kernel_rfl) (by kernel_rfl) (fun _ _ _ h => h) (Or.inl ⟨by kernel_rfl, ?hy10⟩) (by assumption) ?_
    case hy10 => (intro w hSw; (try dsimp only at hSw); go_simp; try with_reducible rfl)
    try simp only [Act.put, List.getElem_toArray, List.getElem_cons_zero, List.getElem_cons_succ, List.setIfInBounds_toArray, List.set_cons_zero, List.set_cons_succ]
    refine wpAnyH_ready (rs := [3]) (by kernel_rfl) (by simp) ?_
    refine AllReadyH.cons rfl (fun K hK => ?_) AllReadyH.nil
    go_simp
    go_wp2_with fail
    refine (C3.out _ hHeld).mono ?_
    rintro e u3 ⟨r3, rfl, o3, hb3⟩
    have hS3 := Below.on hHeld hb3
    refine hK.out _ _ hS3 (fun _ => ?_)
    clear hK K
    replace hHeld := hS3
    clear hS3
    refine wpAnyH_ready (rs := [11]) (by kernel_rfl) (by simp) ?_
    refine AllReadyH.cons rfl (fun K hK => ?_) AllReadyH.nil
    go_simp
    go_wp2_with fail
    refine (C11.out _ hHeld).mono ?_
    rintro e u11 ⟨r11, rfl, o11, hb11⟩
    have hS11 := Below.on hHeld hb11
    refine hK.out _ _ hS11 (fun _ => ?_)
    clear hK K
    replace hHeld := hS11
    clear hS11
    have o3' := ownsRow_below o3 hb11
    obtain ⟨a11, c11, rfl, q11, _⟩ := rd_of_owns o11
    have HS : Hid (Src Tryz.prog 1 148 (.slice a11 4 c11) 4 (bc (le4 ((8 + N) * 65536 + q))) u11) := q11.src Tryz.underlying148
    refine wpAnyH_ready (rs := [12]) (by kernel_rfl) (by simp) ?_
    refine AllReadyH.cons rfl (fun K hK => ?_) AllReadyH.nil
    refine step_append_own_src_WireK rfl (.tmp 70) (.tmp 78) 148 148 rfl wr.heap.size 5 i0 (.int .u8 0) 1 1 Tryz.underlying148 hi hz0 hz1 hz2 rfl r3 4 _ (by simp [Act.eval]) o3' (.slice a11 4 c11) 4 _ (by simp [Act.eval]) HS.out (by simp only [maxLen]; omega) (fits1 (by omega)) hHeld.size ?_
    intro v6 w6 o6 g6
    have hS6 : Below wr.heap.size wr w6 := hHeld.grown g6 hHeld.size (row_lt_WordB o3')
    refine hK.out _ _ hS6 (fun _ => ?_)
    clear hK K
    replace hHeld := hS6
    clear hS6 g6 o3' o3 o11 q11 HS hb3 hb11
    try simp only [Act.put, List.getElem_toArray, List.getElem_cons_zero, List.getElem_cons_succ, List.setIfInBounds_toArray, List.set_cons_zero, List.set_cons_succ]
    refine wpAnyH_take (i := 13) (v := ?_) rfl (by kernel_rfl) (by kernel_rfl) (by kernel_rfl) (fun _ _ _ h => h) (Or.inl ⟨by kernel_rfl, ?hy13⟩) (by assumption) ?_
    case hy13 => (intro w hSw; (try dsimp only at hSw); go_simp; try with_reducible rfl)
    try simp only [Act.put, List.getElem_toArray, List.getElem_cons_zero, List.getElem_cons_succ, List.setIfInBounds_toArray, List.set_cons_zero, List.set_cons_succ]
    refine wpAnyH_done (by kernel_rfl) ?_ _
    clear C3 C11 tb0 tb1
    rw [← bc_append] at o6
    obtain ⟨v6a, v6c, rfl, _, _⟩ := rd_of_owns o6
    have O6 : Hid (Below wr.heap.size wr w6) := hHeld
    have hoN : w6.ownsRow w1.heap.size 5 1 (.slice va N vc) N (bc (pas l)) := ownsRow_below HO.out O6.out
    obtain ⟨va', vc', hv', q7, _⟩ := rd_of_owns hoN
    obtain ⟨rfl, rfl⟩ : va = va' ∧ vc = vc' := by cases hv'; exact ⟨rfl, rfl⟩
    have HS : Hid (Src Tryz.prog 1 148 (.slice va N vc) N (bc (pas l)) w6) := q7.src Tryz.underlying148
    have HBW6 : Hid (Below w.heap.size w w6) := Below.on HBW.out O6.out
    have HW6 : Hid (w.heap.size ≤ wr.heap.size) := Nat.le_of_lt HW.out
    clear hHeld hoN q7 hv' HO HBW
    go_wp2_with (at_builtin; refine wpList_append_own_src _ rfl (.tmp 80) (.tmp 81) 148 148 rfl wr.heap.size 5 i0 (.int .u8 0) 1 1 Tryz.underlying148 hi hz0 hz1 hz2 rfl _ _ _ rfl o6 _ _ _ rfl HS.out (by simp only [maxLen]; omega) (fits1 (by omega)) O6.out.size ?_; intro v7 w7 o7 g7)
    have hb7 : Below w.heap.size w w7 := HBW6.out.grown g7 HBW6.out.size (fun k hk => Nat.le_trans HW6.out (row_lt_WordB o6 k hk))
    rw [← bc_append] at o7
    go_ret2
    refine ⟨_, by rw [HE0.out]; rfl, ?_, hb7⟩
    rw [HE0.out]
    refine ⟨fun _ => ?_, fun h => absurd rfl h⟩
    have e1 : putB o q l = le4 (m32 o) ++ le4 ((8 + N) * 65536 + q) ++ pas l := by rw [putB, hBL, Int.toNat_natCast, List.append_assoc]
    have e2 : (putB o q l).length = 4 + 4 + N := by rw [e1, List.length_append, List.length_append, hBL]; rfl
    rw [e2, e1]
    exact ownsRow_low o7 HW6.out
theorem rPutM_any (o p : Int) (a : Option Addr) (n c : Nat) (l : List AV) (s : ByteArray) (w : World) (hr : RdA w a n c l) (hm : Small l) (hn : n ≤ 1000000) :
  Calls Tryz.prog 58 #[.agg #[.int .i64 o, .int .i64 p, .slice a n c], .string s] w fun e w' => ∃ v, e = .returned (.tuple #[v, .int .i64 (putE_WireE o p l s.data.toList : Nat)]) ∧ PutIs w.heap.size w' (putE_WireE o p l s.data.toList) (putB o p l) v ∧ Below w.heap.size w w' := by
 have hC : ∀ u, Below w.heap.size w u → Calls Tryz.prog 104 #[.agg #[.int .i64 o, .int .i64 p, .slice a n c], .string s] u fun e w' => e = .returned (.int .i64 (noB (chk_WireB o p l s.data.toList) : Nat)) ∧ Below u.heap.size u w' := fun u hu =>
  rcheck_any o p a n c l s u (hr.below hu hr.low) hm (by omega)
 cases hk : chk_WireB o p l s.data.toList with
 | false =>
  rw [hk] at hC
  have e1 : putE_WireE o p l s.data.toList = 1 := by rw [putE_WireE, hk]; rfl
  rw [e1]
  refine (rput_fail o p a n c s w hC).mono ?_
  rintro e w' ⟨rfl, h2⟩
  exact ⟨_, rfl, ⟨fun h => (by cases h), fun _ => rfl⟩, h2⟩
 | true =>
  rw [hk] at hC
  have e1 : putE_WireE o p l s.data.toList = if 4088 < (pas l).length then 4 else 0 := by rw [putE_WireE, hk]; rfl
  rw [e1]
  have hk' := hk
  rw [chk_WireB, Bool.and_eq_true] at hk'
  have hh : 1 ≤ o ∧ o ≤ 4294967295 ∧ 0 ≤ p ∧ p ≤ 65535 := by simpa [headOk] using hk'.1
  exact rput_main o p a n c l s w hr hn hh.2.2 (okArgs_small l _ hk'.2) hC
end
section
section
variable {w w' : World}
def kdz (l : List AV) : List UInt8 := l.map fun x => UInt8.ofNat x.k
theorem rd_litd (w : World) (l : List UInt8) (C : Array Value) (hC : C.toList = bc l) (e : TypeId) (fr : Nat × Nat) (hl : l.length ≤ maxLen) : Rd (w.alloc (.cells C e fr)) (some ⟨w.heap.size, 0, none⟩) l.length l.length l :=
 ⟨rfl, Nat.le_refl _, hl, (fun h => by cases h), fun x hx j u hu => by
  cases hx
  rw [Go.WideShapes.add_plain, Nat.zero_add, World.cell?_alloc_mark, ← Array.getElem?_toList, hC]
  exact hu⟩
theorem bel_mkR (w : World) (o : Obj) : Below w.heap.size w (w.alloc o) := (Below.refl _ _).alloc (Nat.le_refl _) _
theorem sig_any (x : Option Addr) (n c : Nat) (l : List AV) (hr : RdA w x n c l) (hn : n ≤ 1000) : Calls Tryz.prog 59 #[.slice x n c] w fun e w' => e = .returned (.string ⟨(kdz l).toArray⟩) ∧ Below w.heap.size w w' := by
 have hlen := hr.len
 have hc1 := hr.le
 have hc2 := hr.max
 simp only [maxLen] at hc2
 have HR := hid hr
 clear hr
 go_enter Tryz.func59, Tryz.ntmps59
 go_wp2
 go_loopw [3, 4] (fun s k wr => ∃ j : Nat, k = .int .i64 j ∧ j ≤ n ∧ s = .string ⟨(kdz (l.take j)).toArray⟩ ∧ Below w.heap.size w wr) (fun _ k _ => n - (numOf k).toNat)
 case atStart => exact ⟨0, rfl, by omega, by simp [kdz], Below.refl _ _⟩
 case round =>
  obtain ⟨j, rfl, hj, rfl, hb⟩ := hrel
  have HW := hid hb
  by_cases hgo : j < n
  ·have e1 : decide ((j : Int) < n) = true := decide_eq_true (by omega)
   obtain ⟨bs, off, rfl, hbs, hcz⟩ := HR.out.plain (by omega)
   obtain ⟨y, hy⟩ : ∃ y, l[j]? = some y := ⟨_, List.getElem?_eq_getElem (by omega)⟩
   obtain ⟨c1, _, _⟩ := hcz j y hy
   rw [← hb.cell hbs] at c1
   have lz : bs < wr.heap.size := Nat.lt_of_lt_of_le hbs hb.size
   have hk := (HR.out.wf y (List.mem_of_getElem? hy)).k
   have hcv : (convert 148 9 (.slice (some ⟨wr.heap.size, 0, none⟩) 1 1)).run Tryz.prog (wr.alloc (.cells #[.int .u8 y.k] 5)) = .ok (.string ⟨#[UInt8.ofNat y.k]⟩) (wr.alloc (.cells #[.int .u8 y.k] 5)) :=
    (rd_litd wr [UInt8.ofNat y.k] #[.int .u8 y.k] (by simp [bc, Nat.mod_eq_of_lt hk]) 5 (0, 0) (by simp [maxLen])).conv 148 9 5 Tryz.underlying148 Tryz.underlying5 Tryz.underlying9
   have HS : Hid ((⟨(kdz (l.take j)).toArray⟩ : ByteArray) ++ (⟨#[UInt8.ofNat y.k]⟩ : ByteArray) = ⟨(kdz (l.take (j + 1))).toArray⟩) := by
    rw [Hid, List.take_add_one, hy, kdz, kdz, List.map_append]
    apply ByteArray.ext
    simp
   have hq : (kdz (l.take j)).length ≤ 1000 := by
    simp only [kdz, List.length_map, List.length_take]
    omega
   clear hb hcz hy hk
   go_wp2
   go_roundw
   case rel => exact ⟨j + 1, by go_num, by omega, by rw [← HS.out], HW.out.alloc HW.out.size _⟩
   case measure => simp [numOf]; omega
  ·obtain rfl : j = n := by omega
   have e1 : decide ((j : Int) < j) = false := decide_eq_false (by omega)
   clear hb
   go_wp2
   go_ret
   exact ⟨by rw [List.take_of_length_le (by omega)]; rfl, HW.out⟩
theorem req_any (o q : Int) (x : Option Addr) (n c : Nat) (l : List AV) (hr : RdA w x n c l) (hn : n ≤ 1000) (hm : Small l) (hp : putE_WireE o q l (kdz l) = 0) :
  Calls Tryz.prog 31 #[.int .i64 o, .int .i64 q, .slice x n c] w fun e w' => e = .returned (.string ⟨(putB o q l).toArray⟩) ∧ Below w.heap.size w w' := by
 have hS := sig_any x n c l hr hn
 have HP := hid (fun (u : World) (hu : Below w.heap.size w u) => rPutM_any o q x n c l ⟨(kdz l).toArray⟩ u (hr.below hu hr.low) hm (by omega))
 have HS := hid hS
 have HZ := hid hp
 clear hS hr hp
 go_enter Tryz.func31, Tryz.ntmps31
 go_wp2_with fail
 refine HS.out.mono ?_
 rintro e w1 ⟨rfl, hb1⟩
 have HB1 := hid hb1
 have HP1 := hid (HP.out w1 hb1)
 clear hb1 HS HP
 go_wp2_with fail
 refine HP1.out.mono ?_
 rintro e w2 ⟨v, rfl, hv, hb2⟩
 have hz : putE_WireE o q l (kdz l) = 0 := HZ.out
 obtain ⟨a2, c2, rfl, hr2, _⟩ := rd_of_owns (hv.1 hz)
 have hcv := hr2.conv 148 9 5 Tryz.underlying148 Tryz.underlying5 Tryz.underlying9
 have HB2 := hid (Below.on HB1.out hb2)
 clear hb2 hv HP1 hr2
 go_wp2
 go_ret
 exact ⟨rfl, HB2.out⟩
theorem infoRw : (Tryz.prog.info? 31).map (·.size) = some 3 := by kernel_rfl
theorem raw_any (o q : Int) (x : Option Addr) (n c : Nat) (l : List AV) (hr : RdA w x n c l) (hn : n ≤ 1000) (hm : Small l) (hp : putE_WireE o q l (kdz l) = 0) :
  Calls Tryz.prog 7 #[.int .i64 o, .int .i64 q, .slice x n c] w fun e w' => e = .returned (.agg #[.int .i64 o, .int .i64 q, .string ⟨(pas l).toArray⟩]) ∧ Below w.heap.size w w' := by
 have HQ := hid (fun (u : World) (hu : Below w.heap.size w u) => req_any o q x n c l (hr.below hu hr.low) hn hm hp)
 have HB := hid (bel_mkR w (.cells #[.int .i64 0, .int .i64 0, .string ⟨#[]⟩] 31))
 have hv := heap_alloc_new w (.cells #[.int .i64 0, .int .i64 0, .string ⟨#[]⟩] 31)
 clear hr
 go_enter Tryz.func7, Tryz.ntmps7
 go_wp2_with fail
 refine (HQ.out _ HB.out).mono ?_
 rintro e w1 ⟨rfl, hb1⟩
 have hv1 := (kp_of_below hb1 []).var hv (by simp)
 have HB1 := hid (Below.on HB.out hb1)
 have c0 : w1.cell? ⟨w.heap.size, 0, none⟩ = some (.int .i64 0) := by rw [Lib.cell_of_heap hv1]; rfl
 have c1 : w1.cell? ⟨w.heap.size, 1, none⟩ = some (.int .i64 0) := by rw [Lib.cell_of_heap hv1]; rfl
 have c2 : w1.cell? ⟨w.heap.size, 2, none⟩ = some (.string ⟨#[]⟩) := by rw [Lib.cell_of_heap hv1]; rfl
 have l1 : w.heap.size < w1.heap.size := (Array.getElem?_eq_some_iff.1 hv1).1
 have hL : 8 ≤ (putB o q l).length := by rw [putB]; simp [le4]
 have f0 := Lib.frozen_of_heap hv1 0
 have f1 := Lib.frozen_of_heap hv1 1
 have f2 := Lib.frozen_of_heap hv1 2
 clear hb1 HB HQ hv
 have hf : ∀ S : ByteArray, (((w1.setCell ⟨w.heap.size, 0, none⟩ (.int .i64 o)).setCell ⟨w.heap.size, 1, none⟩ (.int .i64 q)).setCell ⟨w.heap.size, 2, none⟩ (.string S)).heap[w.heap.size]? = some (.cells #[.int .i64 o, .int .i64 q, .string S] 31 (0, 0)) := fun S => ((((Bk.mk hv1).set 0 (.int .i64 o)).set 1 (.int .i64 q)).set 2 (.string S)).obj
 have HF := hid hf
 have hS : (⟨(putB o q l).toArray⟩ : ByteArray).extract 8 (putB o q l).length = ⟨(pas l).toArray⟩ := by
  apply ByteArray.ext
  simp [ByteArray.data_extract, putB, le4]
 have HSS := hid hS
 clear hf hS
 go_wp2_with fail
 refine bodyPost_ret (results_cell_row rfl _ _ w.heap.size _ _ _ _ rfl (HF.out _) Tryz.underlying31 rfl infoRw) rfl ?_
 exact ⟨by rw [HSS.out], ((HB1.out.setCell (Nat.le_refl _) _).setCell (Nat.le_refl _) _).setCell (Nat.le_refl _) _⟩
end
end
end Go.Proofs.YtpbgbpcdohdecaaGreatDoor
