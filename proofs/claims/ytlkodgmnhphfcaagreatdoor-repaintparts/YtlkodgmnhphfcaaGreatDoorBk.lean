/- The contracts of the program's few, added, Flat, Add, Clip, Move. -/
import Derived.Test.YtlkodgmnhphfcaaGreatDoorBi
import Derived.Test.YtlkodgmnhphfcaaGreatDoorBj
import Derived.Test.YtlkodgmnhphfcaaGreatDoorBh
import Derived.Test.YtlkodgmnhphfcaaGreatDoorBb
import Derived.Deep.RegionHeldLaw
import Derived.Test.YtlkodgmnhphfcaaGreatDoorBg
import Derived.Test.YtlkodgmnhphfcaaGreatDoorChecked
import Derived.Lib.SmallJoins
import Derived.ProofKit
import Derived.OpenShut
import Derived.ShutString
import Derived.ChangeOld
import Derived.SizedLaws
namespace Go.Proofs.YtlkodgmnhphfcaaGreatDoor
open Go Go.RowKit

/-- More of them, one by one. -/
def dfm (l m : List Rc) : List Rc := m.foldl dput l
theorem dfm_snoc {l m : List Rc} {j : Nat} {r : Rc} (h : m[j]? = some r) : dfm l (m.take (j + 1)) = dput (dfm l (m.take j)) r := by
  rw [List.take_add_one, h]
  simp [dfm]
theorem dfm_all {l : List Rc} (h : Reg l) (h' : l.length ≤ 40) (m : List Rc) : Reg (dfm l m) ∧ (dfm l m).length ≤ 40 := by
  induction m generalizing l with
  | nil => exact ⟨h, h'⟩
  | cons r m ih => exact ih (dput_reg h r) (dput_len l r)

set_option maxRecDepth 100000 in
set_option maxHeartbeats 1000000 in
theorem dfew_any (a : Option Addr) (n c : Nat) (l : List Rc) (w : World) (h : RdC w a n c l) (hr : Reg l) :
    Calls Tryz.prog 81 #[.slice a n c] w (Ret w (if 40 < l.length then [cvl l] else l)) := by
  obtain rfl := h.len
  have hs := h.small
  have H := hid h
  clear h
  by_cases hg : 40 < l.length
  · have e1 : decide (40 < (l.length : Int)) = true := decide_eq_true (by omega)
    have k := cvl_full hr.ck (fun e => by rw [e] at hg; exact absurd hg (by decide))
    have C1 := hid (fun u hu => rcoverall_any a l.length c l u hu)
    have C2 := hid (fun u => of_any (cvl l) k.ok u)
    rw [if_pos (rgn_iff.2 hr)] at C1
    rw [ofl_ck k] at C2
    rw [if_pos hg]
    generalize cvl l = A0 at C1 C2 ⊢
    go_enter Tryz.func81, Tryz.ntmps81
    go_wp2_with fail
    refine (C1.out _ H.out).mono ?_
    rintro e w1 ⟨r, rfl, rfl, hb1⟩
    have HB1 := hid hb1
    clear hb1
    go_wp2_with fail
    refine (C2.out _).mono ?_
    rintro e w2 ⟨a2, c2, rfl, h2, hb2⟩
    have H2 := hid h2
    have HB2 := hid (Below.on HB1.out hb2)
    clear h2 hb2
    go_wp2
    go_ret
    exact ⟨_, _, rfl, H2.out, HB2.out⟩
  · have e1 : decide (40 < (l.length : Int)) = false := decide_eq_false (by omega)
    rw [if_neg hg]
    go_enter Tryz.func81, Tryz.ntmps81
    go_wp2
    go_ret
    exact ⟨_, _, rfl, H.out, Below.refl _ _⟩

set_option maxRecDepth 100000 in
set_option maxHeartbeats 1000000 in
theorem dadded_any (a a' : Option Addr) (n c n' c' : Nat) (l m : List Rc) (w : World) (h : RdC w a n c l) (h' : RdC w a' n' c' m) (hr : Reg l) (hn : n ≤ 40) :
    Calls Tryz.prog 67 #[.slice a n c, .slice a' n' c'] w (Ret w (dfm l m)) := by
  obtain rfl := h.len
  have HL := hid h'.len
  have hs := h'.small
  have H := hid h
  have H' := hid h'
  have HA := hid (fun j => dfm_all hr hn (m.take j))
  clear h h' hr hn
  go_enter Tryz.func67, Tryz.ntmps67
  go_wp2
  go_loopw [0, 9] (fun s0 s9 wr => ∃ (j : Nat) (b : Option Addr) (d : Nat), s9 = .int .i64 j ∧ s0 = .slice b (dfm l (m.take j)).length d ∧ j ≤ n' ∧ RdC wr b (dfm l (m.take j)).length d (dfm l (m.take j)) ∧ RowKit.Below w.heap.size w wr) (fun _ s9 _ => n' - (numOf s9).toNat)
  case atStart => exact ⟨0, _, _, rfl, rfl, by omega, H.out, Below.refl _ _⟩
  case round =>
    obtain ⟨j, b, d, rfl, rfl, hj, h3, hb⟩ := hrel
    have H3 := hid h3
    have HB := hid hb
    clear h3 hb H
    by_cases hgo : j < n'
    · have e1 : decide ((j : Int) < n') = true := decide_eq_true (by omega)
      obtain ⟨b2, off, r, rfl, _, hr, ok, he⟩ := (H'.out.on HB.out).el hgo
      obtain ⟨_, c0, c1, c2, c3⟩ := he
      obtain ⟨hreg, hlen⟩ := HA.out j
      have HS := hid (dfm_snoc (l := l) hr)
      generalize dfm l (m.take j) = A0 at hreg hlen HS H3 ⊢
      have hlo := ofl_length r
      have CO := hid (fun u => of_any r ok u)
      have CU := hid (fun u a2 c2 (h1 : RdC u b A0.length d A0) (h2 : RdC u a2 (ofl r).length c2 (ofl r)) => union_any b a2 A0.length d (ofl r).length c2 A0 (ofl r) u h1 h2 (by omega))
      rw [unn_reg hreg (ofl_reg r)] at CU
      have CW := hid (fun u a2 c2 (h1 : RdC u a2 (mk or A0 (ofl r)).length c2 (mk or A0 (ofl r))) => dfew_any a2 _ c2 _ u h1 (dor hreg r).1)
      rw [← dput] at CW
      generalize ofl r = O at CO CU CW hlo
      generalize mk or A0 O = U at CU CW
      generalize dput A0 r = D at CW HS
      have HN := hid (below_new wr (ob r))
      rw [ob] at HN
      clear hr ok hreg hlen hlo
      go_wp2_with fail
      refine (CO.out _).mono ?_
      rintro e w1 ⟨a1, c1', rfl, h1, hb1⟩
      have H1 := hid h1
      replace HN := hid (Below.on HN.out hb1)
      clear h1 hb1
      go_wp2_with fail
      refine (CU.out _ _ _ (H3.out.on HN.out) H1.out).mono ?_
      rintro e w2 ⟨a2, c2', rfl, h2, hb2⟩
      have H2 := hid h2
      replace HN := hid (Below.on HN.out hb2)
      clear h2 hb2
      go_wp2_with fail
      refine (CW.out _ _ _ H2.out).mono ?_
      rintro e w3 ⟨a3, c3', rfl, h4, hb3⟩
      have H4 := hid h4
      replace HN := hid (Below.on HN.out hb3)
      clear h4 hb3
      go_wp2
      go_roundw
      case rel => exact ⟨j + 1, _, _, by go_num, by rw [HS.out], by omega, by rw [HS.out]; exact H4.out, Below.on HB.out HN.out⟩
      case measure => simp [numOf]; omega
    · have e1 : decide ((j : Int) < n') = false := decide_eq_false (by omega)
      have HE : Hid (m.take j = m) := List.take_of_length_le (by rw [HL.out]; omega)
      rw [HE.out] at H3 ⊢
      go_wp2
      go_ret
      exact ⟨_, _, rfl, H3.out, HB.out⟩

set_option maxRecDepth 100000 in
set_option maxHeartbeats 1000000 in
theorem dflat_any (a : Option Addr) (n c : Nat) (l : List Rc) (w : World) (h : RdC w a n c l) :
    Calls Tryz.prog 44 #[.slice a n c] w (Ret w (dfl l)) := by
  have C1 := hid (dadded_any none a 0 0 n c [] l w (RdC.nil w) h reg_nil (by decide))
  clear h
  rw [show dfm [] l = dfl l from rfl] at C1
  generalize dfl l = D at C1 ⊢
  go_enter Tryz.func44, Tryz.ntmps44
  go_wp2_with fail
  refine C1.out.mono ?_
  rintro e w1 ⟨a1, c1, rfl, h1, hb1⟩
  have H1 := hid h1
  have HB1 := hid hb1
  clear h1 hb1
  go_wp2
  go_ret
  exact ⟨_, _, rfl, H1.out, HB1.out⟩


end Go.Proofs.YtlkodgmnhphfcaaGreatDoor

/- Repaint: the contracts of the program's seen, damaged, Changed. Laid by repaint/lay.sh. -/
namespace Go.Proofs.YtlkodgmnhphfcaaGreatDoor
open Go Go.RowKit

theorem Bx.kp {u v : World} {p : Nat} {a : Rc} (h : Bx u p a) {X : List Nat} (hb : Kp X u v) (hX : p ∉ X) : Bx v p a := ⟨hb.var h.obj hX⟩
theorem bnd_okq (r : Rc) : (bnd r).Ok := by
  rcases bnd_cases r with h | h
  · rw [bnd] at h ⊢
    by_cases he : emp r = true
    · rw [cut_emp1 he]; exact rz_ok
    · rw [Bool.not_eq_true] at he
      rw [cut_full he (by decide)] at h ⊢
      unfold oft at h ⊢
      split at h
      · rename_i hc
        rw [if_pos hc]; exact rz_ok
      · rename_i hc
        simp only [emp, Bool.or_eq_true, decide_eq_true_eq] at h
        omega
  · exact h.ok
/-- Cut, and moved: numbers that are not great. -/
theorem qcut_small (y : List Int) (r : Rc) : (cut (bnd r) (bnd ⟨0, 0, nm5 4 y, nm5 5 y⟩)).Ok ∧ (emp (cut (bnd r) (bnd ⟨0, 0, nm5 4 y, nm5 5 y⟩)) = false → Ck (cut (bnd r) (bnd ⟨0, 0, nm5 4 y, nm5 5 y⟩))) := by
  have key : ∀ a b : Rc, (emp a = true ∨ Ck a) → (emp b = true ∨ Ck b) → (cut a b).Ok ∧ (emp (cut a b) = false → Ck (cut a b)) := fun a b ha hb => by
    rcases ha with ha | ha
    · rw [cut_emp1 ha]; exact ⟨rz_ok, fun h => by cases h⟩
    · rcases hb with hb | hb
      · rw [cut_emp2 _ hb]; exact ⟨rz_ok, fun h => by cases h⟩
      · refine ⟨?_, cut_ck ha hb⟩
        rcases cut_two ha hb with h | ⟨h, h1, h2⟩
        · rw [h]; exact rz_ok
        · exact (cut_ck ha hb (by rw [h]; simp only [emp, Bool.or_eq_false_iff, decide_eq_false_iff_not]; omega)).ok
  exact key _ _ (bnd_cases r) (bnd_cases _)
theorem map_snoc {α β : Type} {f : α → β} {l : List α} {j : Nat} {x : α} (h : l[j]? = some x) : (l.take (j + 1)).map f = (l.take j).map f ++ [f x] := by
  rw [List.take_add_one, h, List.map_append]
  rfl
theorem fmap_snoc {α β : Type} {f : α → List β} {l : List α} {j : Nat} {x : α} (h : l[j]? = some x) : (l.take (j + 1)).flatMap f = (l.take j).flatMap f ++ f x := by
  rw [List.take_add_one, h, List.flatMap_append]
  simp

set_option maxRecDepth 100000 in
set_option maxHeartbeats 4000000 in
theorem qseen_any (z0 z1 z2 z3 z4 z5 : Int) (k : Ck (vrc [z0, z1, z2, z3, z4, z5])) (a : Option Addr) (n c : Nat) (l : List Rc) (w : World) (h : RdC w a n c l) (hn : n ≤ 1000000) :
    Calls Tryz.prog 66 #[.agg #[.int .i64 z0, .int .i64 z1, .int .i64 z2, .int .i64 z3, .int .i64 z4, .int .i64 z5], .slice a n c] w (Ret w (l.map (spt [z0, z1, z2, z3, z4, z5]))) := by
  obtain ⟨i0, hi, hz0, hz1, hz2⟩ := info3 infoC
  have HR := hid h
  have HL := hid h.len
  have hs := h.small
  have HK := hid k
  obtain ⟨y, hy⟩ : ∃ y, [z0, z1, z2, z3, z4, z5] = y := ⟨_, rfl⟩
  have e2 : nm5 2 y = z2 := by rw [← hy]; rfl
  have e3 : nm5 3 y = z3 := by rw [← hy]; rfl
  have e4 : nm5 4 y = z4 := by rw [← hy]; rfl
  have e5 : nm5 5 y = z5 := by rw [← hy]; rfl
  rw [hy] at HK ⊢
  obtain ⟨q, hq⟩ : ∃ q, bnd ⟨0, 0, z4, z5⟩ = q := ⟨_, rfl⟩
  have ok0 : (Rc.mk 0 0 z4 z5).Ok := by
    obtain ⟨k1, k2, k3, k4, k5, k6⟩ := k
    simp only [vrc, nm5, List.getD_eq_getElem?_getD, List.getElem?_cons_succ, List.getElem?_cons_zero, Option.getD_some] at k1 k2 k3 k4 k5 k6
    exact ⟨by dsimp only; omega, by dsimp only; omega, by dsimp only; omega, by dsimp only; omega⟩
  have CO := hid (fun u => bound_any ⟨0, 0, z4, z5⟩ ok0 u)
  rw [hq] at CO
  have HSP : Hid (∀ r : Rc, r.Ok → ∃ B C : Rc, (∀ u, Calls Tryz.prog 79 #[.agg #[.int .i64 r.x, .int .i64 r.y, .int .i64 r.w, .int .i64 r.h]] u fun e w' => e = .returned (.agg #[.int .i64 B.x, .int .i64 B.y, .int .i64 B.w, .int .i64 B.h]) ∧ Below u.heap.size u w')
      ∧ (∀ u, Calls Tryz.prog 73 #[.agg #[.int .i64 B.x, .int .i64 B.y, .int .i64 B.w, .int .i64 B.h], .agg #[.int .i64 q.x, .int .i64 q.y, .int .i64 q.w, .int .i64 q.h]] u fun e w' => e = .returned (.agg #[.int .i64 C.x, .int .i64 C.y, .int .i64 C.w, .int .i64 C.h]) ∧ Below u.heap.size u w')
      ∧ ∀ u, Calls Tryz.prog 80 #[.agg #[.int .i64 C.x, .int .i64 C.y, .int .i64 C.w, .int .i64 C.h], .int .i64 z2, .int .i64 z3] u fun e w' => e = .returned (.agg #[.int .i64 (spt y r).x, .int .i64 (spt y r).y, .int .i64 (spt y r).w, .int .i64 (spt y r).h]) ∧ Below u.heap.size u w') := fun r ok => by
    have hs1 := qcut_small y r
    rw [e4, e5, hq] at hs1
    have hs2 := sh_spt HK.out r
    rw [e2, e3, e4, e5, hq] at hs2
    rw [← hs2]
    refine ⟨bnd r, cut (bnd r) q, fun u => bound_any r ok u, fun u => cut_any _ _ (bnd_okq r) (by rw [← hq]; exact bnd_okq _) u, fun u => shift_any _ z2 z3 (fun he => ?_) (fun he => ?_) u⟩
    · obtain ⟨k1, k2, k3, k4, k5, k6⟩ := hs1.2 he
      have K := HK.out
      have g1 := K.x
      have g2 := K.r
      have g3 := K.w
      simp only [vrc] at g1 g2 g3
      omega
    · obtain ⟨k1, k2, k3, k4, k5, k6⟩ := hs1.2 he
      have K := HK.out
      have g1 := K.y
      have g2 := K.b
      have g3 := K.h
      simp only [vrc] at g1 g2 g3
      omega
  have HOK : Hid (∀ j : Nat, ∀ r ∈ (l.take j).map (spt y), r.Ok) := fun j r hr => by
    obtain ⟨x, _, rfl⟩ := List.mem_map.1 hr
    exact spt_ok y x
  have HV := hid (bk_new w #[.int .i64 z0, .int .i64 z1, .int .i64 z2, .int .i64 z3, .int .i64 z4, .int .i64 z5] 65)
  have HA := hid (bel_new w (.cells #[.int .i64 z0, .int .i64 z1, .int .i64 z2, .int .i64 z3, .int .i64 z4, .int .i64 z5] 65))
  clear h k ok0 hq hy e2 e3 e4 e5
  go_enter Tryz.func66, Tryz.ntmps66
  go_wp2_with fail
  refine (CO.out _).mono ?_
  rintro e w1 ⟨rfl, hb1⟩
  have hX := bx_new w1 q
  have HBW := hid (Below.on (Below.on HA.out hb1) (below_new w1 (ob q)))
  have HV1 := hid ((HV.out.on hb1).on (below_new w1 (ob q)))
  have HX1 := hid hX
  have hl1 := hX.lt
  have hl2 : w.heap.size < w1.heap.size := (HV.out.on hb1).lt
  clear hb1 hX CO HA HV
  go_wp2
  rw [ob] at HBW HV1
  generalize w1.alloc (.cells #[.int .i64 q.x, .int .i64 q.y, .int .i64 q.w, .int .i64 q.h] 67) = W0 at HBW HV1 HX1 hl1 ⊢
  go_loopw [6, 17] (fun v i wr => ∃ j : Nat, i = .int .i64 j ∧ j ≤ n ∧ OwC W0 wr v ((l.take j).map (spt y))) (fun _ i _ => n - (numOf i).toNat)
  case atStart => exact ⟨0, rfl, by omega, OwC.nil W0⟩
  case round =>
    obtain ⟨j, rfl, hj, hO⟩ := hrel
    have HO := hid hO
    have HT : Hid (((l.take j).map (spt y)).length = j) := by rw [Hid, List.length_map, List.length_take, HL.out]; omega
    obtain ⟨av, cv, rfl, _⟩ := rdc_of_owns hO.own (HOK.out j)
    rw [HT.out] at HO ⊢
    clear hO
    by_cases hgo : j < n
    · have e1 : decide ((j : Int) < n) = true := decide_eq_true (by omega)
      have e2 : (j : Int) < n := by omega
      obtain ⟨b, off, r, rfl, hb, hr, ok, he⟩ := ((HR.out.on HBW.out).on HO.out.bel).el hgo
      obtain ⟨_, d0, d1, d2, d3⟩ := he
      obtain ⟨B, C, CB, CC, CS⟩ := HSP.out r ok
      have HS := hid (map_snoc (f := spt y) hr)
      generalize spt y r = R at CS HS
      have HCB := hid CB
      have HCC := hid CC
      have HCS := hid CS
      clear hr ok CB CC CS hb
      go_upto_region 6 with fail
      have hbA := below_new wr (ob r)
      rw [ob] at hbA
      have HO2 := hid (HO.out.on hbA)
      have HS0 : Hid (Bk (wr.alloc (.cells #[.int .i64 r.x, .int .i64 r.y, .int .i64 r.w, .int .i64 r.h] 67)) w.heap.size 65 #[.int .i64 z0, .int .i64 z1, .int .i64 z2, .int .i64 z3, .int .i64 z4, .int .i64 z5] ∧ Bx (wr.alloc (.cells #[.int .i64 r.x, .int .i64 r.y, .int .i64 r.w, .int .i64 r.h] 67)) w1.heap.size q ∧ Bx (wr.alloc (.cells #[.int .i64 r.x, .int .i64 r.y, .int .i64 r.w, .int .i64 r.h] 67)) wr.heap.size r) := ⟨(HV1.out.on HO.out.bel).on hbA, (HX1.out.on HO.out.bel).on hbA, bx_new wr r⟩
      have hsz := HO.out.bel.size
      have hown : ∀ g, (Value.slice av j cv).ownBlock = some g → W0.heap.size ≤ g ∧ g < wr.heap.size := fun g hg => HO.out.own.lt g hg
      clear HO d0 d1 d2 d3 hbA
      generalize wr.alloc (.cells #[.int .i64 r.x, .int .i64 r.y, .int .i64 r.w, .int .i64 r.h] 67) = U at HO2 HS0 ⊢
      refine wp_region_held_drew (S := fun x => Bk x w.heap.size 65 #[.int .i64 z0, .int .i64 z1, .int .i64 z2, .int .i64 z3, .int .i64 z4, .int .i64 z5] ∧ Bx x w1.heap.size q ∧ Bx x wr.heap.size r) (by kernel_rfl) ?hh (fun hHeld => ?_)
      case hh => exact (⟨HS0.out.1.on (Below.refl _ _).drew, HS0.out.2.1.on (Below.refl _ _).drew, HS0.out.2.2.on (Below.refl _ _).drew⟩)
      refine wpAnyH_take (i := 0) (v := ?_) rfl (by kernel_rfl) (by kernel_rfl) (by kernel_rfl) (fun _ _ _ h => h) (Or.inl ⟨by kernel_rfl, ?hy0⟩) (by assumption) ?_
      case hy0 => (intro w hSw; (try dsimp only at hSw); have t2 := hSw.1.cell 2; have t3 := hSw.1.cell 3; obtain ⟨s0, s1, s2, s3⟩ := hSw.2.1.all; obtain ⟨r0, r1, r2, r3⟩ := hSw.2.2.all; go_simp; try with_reducible rfl)
      try simp only [Act.put, List.getElem_toArray, List.getElem_cons_zero, List.setIfInBounds_toArray, List.set_cons_zero, List.set_cons_succ]
      refine wpAnyH_take (i := 1) (v := ?_) rfl (by kernel_rfl) (by kernel_rfl) (by kernel_rfl) (fun _ _ _ h => h) (Or.inl ⟨by kernel_rfl, ?hy1⟩) (by assumption) ?_
      case hy1 => (intro w hSw; (try dsimp only at hSw); have t2 := hSw.1.cell 2; have t3 := hSw.1.cell 3; obtain ⟨s0, s1, s2, s3⟩ := hSw.2.1.all; obtain ⟨r0, r1, r2, r3⟩ := hSw.2.2.all; go_simp; try with_reducible rfl)
      try simp only [Act.put, List.getElem_toArray, List.getElem_cons_zero, List.getElem_cons_succ, List.setIfInBounds_toArray, List.set_cons_zero, List.set_cons_succ]
      refine wpAnyH_take (i := 3) (v := ?_) rfl (by kernel_rfl) (by kernel_rfl) (by kernel_rfl) (fun _ _ _ h => h) (Or.inl ⟨by kernel_rfl, ?hy3⟩) (by assumption) ?_
      case hy3 => (intro w hSw; (try dsimp only at hSw); have t2 := hSw.1.cell 2; have t3 := hSw.1.cell 3; obtain ⟨s0, s1, s2, s3⟩ := hSw.2.1.all; obtain ⟨r0, r1, r2, r3⟩ := hSw.2.2.all; go_simp; try with_reducible rfl)
      try simp only [Act.put, List.getElem_toArray, List.getElem_cons_zero, List.getElem_cons_succ, List.setIfInBounds_toArray, List.set_cons_zero, List.set_cons_succ]
      refine wpAnyH_take (i := 5) (v := ?_) rfl (by kernel_rfl) (by kernel_rfl) (by kernel_rfl) (fun _ _ _ h => h) (Or.inl ⟨by kernel_rfl, ?hy5⟩) (by assumption) ?_
      case hy5 => (intro w hSw; (try dsimp only at hSw); have t2 := hSw.1.cell 2; have t3 := hSw.1.cell 3; obtain ⟨s0, s1, s2, s3⟩ := hSw.2.1.all; obtain ⟨r0, r1, r2, r3⟩ := hSw.2.2.all; go_simp; try with_reducible rfl)
      try simp only [Act.put, List.getElem_toArray, List.getElem_cons_zero, List.getElem_cons_succ, List.setIfInBounds_toArray, List.set_cons_zero, List.set_cons_succ]
      refine wpAnyH_take (i := 6) (v := ?_) rfl (by kernel_rfl) (by kernel_rfl) (by kernel_rfl) (fun _ _ _ h => h) (Or.inl ⟨by kernel_rfl, ?hy6⟩) (by assumption) ?_
      case hy6 => (intro w hSw; (try dsimp only at hSw); have t2 := hSw.1.cell 2; have t3 := hSw.1.cell 3; obtain ⟨s0, s1, s2, s3⟩ := hSw.2.1.all; obtain ⟨r0, r1, r2, r3⟩ := hSw.2.2.all; go_simp; try with_reducible rfl)
      try simp only [Act.put, List.getElem_toArray, List.getElem_cons_zero, List.getElem_cons_succ, List.setIfInBounds_toArray, List.set_cons_zero, List.set_cons_succ]
      refine wpAnyH_take (i := 7) (v := ?_) rfl (by kernel_rfl) (by kernel_rfl) (by kernel_rfl) (fun _ _ _ h => h) (Or.inl ⟨by kernel_rfl, ?hy7⟩) (by assumption) ?_
      case hy7 => (intro w hSw; (try dsimp only at hSw); have t2 := hSw.1.cell 2; have t3 := hSw.1.cell 3; obtain ⟨s0, s1, s2, s3⟩ := hSw.2.1.all; obtain ⟨r0, r1, r2, r3⟩ := hSw.2.2.all; go_simp; try with_reducible rfl)
      try simp only [Act.put, List.getElem_toArray, List.getElem_cons_zero, List.getElem_cons_succ, List.setIfInBounds_toArray, List.set_cons_zero, List.set_cons_succ]
      refine wpAnyH_take (i := 8) (v := ?_) rfl (by kernel_rfl) (by kernel_rfl) (by kernel_rfl) (fun _ _ _ h => h) (Or.inl ⟨by kernel_rfl, ?hy8⟩) (by assumption) ?_
      case hy8 => (intro w hSw; (try dsimp only at hSw); have t2 := hSw.1.cell 2; have t3 := hSw.1.cell 3; obtain ⟨s0, s1, s2, s3⟩ := hSw.2.1.all; obtain ⟨r0, r1, r2, r3⟩ := hSw.2.2.all; go_simp; try with_reducible rfl)
      try simp only [Act.put, List.getElem_toArray, List.getElem_cons_zero, List.getElem_cons_succ, List.setIfInBounds_toArray, List.set_cons_zero, List.set_cons_succ]
      refine wpAnyH_ready (rs := [2]) (by kernel_rfl) (by simp) ?_
      refine AllReadyH.cons rfl (fun K hK => ?_) AllReadyH.nil
      go_simp
      go_wp2_with fail
      refine (HCB.out _).mono ?_
      rintro e u1 ⟨rfl, hb1⟩
      have HO3 := hid ((HO2.out.on (Below.refl _ _).drew).on hb1)
      have hH := (⟨hHeld.1.on hb1, hHeld.2.1.on hb1, hHeld.2.2.on hb1⟩ : Bk u1 w.heap.size 65 #[.int .i64 z0, .int .i64 z1, .int .i64 z2, .int .i64 z3, .int .i64 z4, .int .i64 z5] ∧ Bx u1 w1.heap.size q ∧ Bx u1 wr.heap.size r)
      refine hK.out _ _ hH (fun _ => ?_)
      clear hK K hHeld hb1 HO2 HS0
      have hHeld := hH
      clear hH
      refine wpAnyH_ready (rs := [4]) (by kernel_rfl) (by simp) ?_
      refine AllReadyH.cons rfl (fun K hK => ?_) AllReadyH.nil
      go_simp
      go_wp2_with fail
      refine (HCC.out _).mono ?_
      rintro e u2 ⟨rfl, hb2⟩
      replace HO3 := hid (HO3.out.on hb2)
      have hH := (⟨hHeld.1.on hb2, hHeld.2.1.on hb2, hHeld.2.2.on hb2⟩ : Bk u2 w.heap.size 65 #[.int .i64 z0, .int .i64 z1, .int .i64 z2, .int .i64 z3, .int .i64 z4, .int .i64 z5] ∧ Bx u2 w1.heap.size q ∧ Bx u2 wr.heap.size r)
      refine hK.out _ _ hH (fun _ => ?_)
      clear hK K hHeld hb2
      have hHeld := hH
      clear hH
      refine wpAnyH_ready (rs := [9]) (by kernel_rfl) (by simp) ?_
      refine AllReadyH.cons rfl (fun K hK => ?_) AllReadyH.nil
      go_simp
      go_wp2_with fail
      refine (HCS.out _).mono ?_
      rintro e u3 ⟨rfl, hb3⟩
      replace HO3 := hid (HO3.out.on hb3)
      have hH := (⟨hHeld.1.on hb3, hHeld.2.1.on hb3, hHeld.2.2.on hb3⟩ : Bk u3 w.heap.size 65 #[.int .i64 z0, .int .i64 z1, .int .i64 z2, .int .i64 z3, .int .i64 z4, .int .i64 z5] ∧ Bx u3 w1.heap.size q ∧ Bx u3 wr.heap.size r)
      refine hK.out _ _ hH (fun _ => ?_)
      clear hK K hHeld hb3
      have hHeld := hH
      clear hH
      refine wpAnyH_ready (rs := [10]) (by kernel_rfl) (by simp) ?_
      refine AllReadyH.cons rfl (fun K hK => ?_) AllReadyH.nil
      go_simp
      have hb4 := below_new u3 (ob R)
      rw [ob] at hb4
      have HSR := hid (srcR u3 R)
      replace HO3 := hid (HO3.out.on hb4)
      have hH := (⟨hHeld.1.on hb4, hHeld.2.1.on hb4, hHeld.2.2.on hb4⟩ : Bk (u3.alloc (.cells #[.int .i64 R.x, .int .i64 R.y, .int .i64 R.w, .int .i64 R.h] 67)) w.heap.size 65 #[.int .i64 z0, .int .i64 z1, .int .i64 z2, .int .i64 z3, .int .i64 z4, .int .i64 z5] ∧ Bx (u3.alloc (.cells #[.int .i64 R.x, .int .i64 R.y, .int .i64 R.w, .int .i64 R.h] 67)) w1.heap.size q ∧ Bx (u3.alloc (.cells #[.int .i64 R.x, .int .i64 R.y, .int .i64 R.w, .int .i64 R.h] 67)) wr.heap.size r)
      refine hK.out _ _ hH (fun _ => ?_)
      clear hK K hHeld hb4
      have hHeld := hH
      clear hH
      refine wpAnyH_ready (rs := [11]) (by kernel_rfl) (by simp) ?_
      refine AllReadyH.cons rfl (fun K hK => ?_) AllReadyH.nil
      refine step_append_own_src rfl (.tmp 21) (.tmp 31) 25 25 rfl W0.heap.size 67 i0 (.agg #[.int .i64 0, .int .i64 0, .int .i64 0, .int .i64 0]) 4 32 Tryz.underlying25 hi hz0 hz1 hz2 rfl _ _ _ (by simp [Act.eval]) HO3.out.own _ 1 _ (by simp [Act.eval]) HSR.out (by rw [HT.out]; simp only [maxLen]; omega) (fits32 (by rw [HT.out]; omega)) HO3.out.size ?_
      intro v5 u5 o5 g5
      have HO5 := hid (HO3.out.grown (m := [R]) o5 g5)
      have hk5 := kp_of_grown g5
      have hnot : ∀ p, (p < W0.heap.size ∨ wr.heap.size ≤ p) → p ∉ (Value.slice av j cv).ownBlock.toList := fun p hp hm => by {have h2 := hown p (by simpa using hm); omega}
      have hH := (⟨hHeld.1.kp hk5 (hnot _ (.inl (by omega))), hHeld.2.1.kp hk5 (hnot _ (.inl hl1)), hHeld.2.2.kp hk5 (hnot _ (.inr (Nat.le_refl _)))⟩ : Bk u5 w.heap.size 65 #[.int .i64 z0, .int .i64 z1, .int .i64 z2, .int .i64 z3, .int .i64 z4, .int .i64 z5] ∧ Bx u5 w1.heap.size q ∧ Bx u5 wr.heap.size r)
      refine hK.out _ _ hH (fun _ => ?_)
      clear hK K hHeld o5 g5 hk5
      have hHeld := hH
      clear hH HO3 HSR
      refine wpAnyH_take (i := 12) (v := ?_) rfl (by kernel_rfl) (by kernel_rfl) (by kernel_rfl) (fun _ _ _ h => h) (Or.inl ⟨by kernel_rfl, ?hy12⟩) (by assumption) ?_
      case hy12 => (intro w hSw; (try dsimp only at hSw); have t2 := hSw.1.cell 2; have t3 := hSw.1.cell 3; obtain ⟨s0, s1, s2, s3⟩ := hSw.2.1.all; obtain ⟨r0, r1, r2, r3⟩ := hSw.2.2.all; go_simp; try with_reducible rfl)
      try simp only [Act.put, List.getElem_toArray, List.getElem_cons_zero, List.getElem_cons_succ, List.setIfInBounds_toArray, List.set_cons_zero, List.set_cons_succ]
      refine wpAnyH_done (by kernel_rfl) ?_ _
      clear hHeld
      go_wp2
      go_roundw
      case rel => exact ⟨j + 1, by go_num, by omega, by rw [HS.out]; exact HO5.out⟩
      case measure => simp [numOf]; omega
    · have e1 : decide ((j : Int) < n) = false := decide_eq_false (by omega)
      have HE : Hid (l.take j = l) := List.take_of_length_le (by rw [HL.out]; omega)
      have hF := (HO.out.base HBW.out).ret (HOK.out j)
      rw [HE.out] at hF
      have HF := hid hF
      clear hF
      go_wp2
      go_ret
      exact HF.out
end Go.Proofs.YtlkodgmnhphfcaaGreatDoor

/- Repaint: the contracts of the program's damaged and Changed. -/
namespace Go.Proofs.YtlkodgmnhphfcaaGreatDoor
open Go Go.RowKit

/-- What the program has of damaged surfaces. -/
def qdm (y : List Int) (D : List (Int × List Rc)) : List Rc := D.flatMap fun d => if d.1 = nm5 0 y then d.2.map (spt y) else []
theorem qdm_ok {y : List Int} {D : List (Int × List Rc)} : ∀ r ∈ qdm y D, r.Ok := fun r hr => by
  obtain ⟨d, _, hr⟩ := List.mem_flatMap.1 hr
  split at hr
  · obtain ⟨x, _, rfl⟩ := List.mem_map.1 hr
    exact spt_ok y x
  · cases hr
theorem qdm_len {y : List Int} {M : Nat} : ∀ {D : List (Int × List Rc)}, (∀ d ∈ D, d.2.length ≤ M) → (qdm y D).length ≤ D.length * M
  | [], _ => by simp [qdm]
  | d :: D, h => by
    have h1 := qdm_len (y := y) (D := D) fun e he => h e (by simp [he])
    have h2 := h d (by simp)
    rw [qdm, List.flatMap_cons, List.length_append, List.length_cons, Nat.add_mul, Nat.one_mul]
    have h3 : (if d.1 = nm5 0 y then d.2.map (spt y) else []).length ≤ d.2.length := by
      split
      · rw [List.length_map]; exact Nat.le_refl _
      · exact Nat.zero_le _
    rw [qdm] at h1
    omega
theorem qdm_snoc {y : List Int} {D : List (Int × List Rc)} {j : Nat} {d : Int × List Rc} (h : D[j]? = some d) : qdm y (D.take (j + 1)) = qdm y (D.take j) ++ (if d.1 = nm5 0 y then d.2.map (spt y) else []) := fmap_snoc h

set_option maxRecDepth 100000 in
set_option maxHeartbeats 4000000 in
theorem qdamaged_any (z0 z1 z2 z3 z4 z5 : Int) (ok : (vrc [z0, z1, z2, z3, z4, z5]).Ok) (a : Option Addr) (n c : Nat) (ds : List Dv) (w : World) (h : RdD w a n c ds) (hn : n ≤ 1000) (hd : ∀ d ∈ ds, d.n ≤ 1000) :
    Calls Tryz.prog 42 #[.agg #[.int .i64 z0, .int .i64 z1, .int .i64 z2, .int .i64 z3, .int .i64 z4, .int .i64 z5], .slice a n c] w (Ret w (if dck (vrc [z0, z1, z2, z3, z4, z5]) = true then qdm [z0, z1, z2, z3, z4, z5] (ds.map ddl) else [])) := by
  obtain ⟨i0, hi, hz0, hz1, hz2⟩ := info3 infoC
  have HR := hid h
  have HL := hid h.len
  have hs := h.small
  have CC := hid (fun u => check_any (vrc [z0, z1, z2, z3, z4, z5]) ok u)
  rw [chk_dck ok] at CC
  rw [show vrc [z0, z1, z2, z3, z4, z5] = ⟨z2, z3, z4, z5⟩ from rfl] at CC ⊢
  have HV := hid (bk_new w #[.int .i64 z0, .int .i64 z1, .int .i64 z2, .int .i64 z3, .int .i64 z4, .int .i64 z5] 65)
  have HA := hid (bel_new w (.cells #[.int .i64 z0, .int .i64 z1, .int .i64 z2, .int .i64 z3, .int .i64 z4, .int .i64 z5] 65))
  cases hk : dck ⟨z2, z3, z4, z5⟩ with
  | false =>
    rw [hk] at CC
    rw [if_neg (by decide)]
    clear hk h
    go_enter Tryz.func42, Tryz.ntmps42
    go_wp2_with fail
    refine (qplace_any z0 z1 z2 z3 z4 z5 _).mono ?_
    rintro e w1 ⟨rfl, hb1⟩
    have HB1 := hid (Below.on HA.out hb1)
    clear hb1 HV HA
    go_wp2_with fail
    refine (CC.out _).mono ?_
    rintro e w2 ⟨rfl, hb2⟩
    have HB2 := hid (Below.on HB1.out hb2)
    clear hb2 HB1 CC
    go_wp2
    go_ret
    exact ⟨none, 0, rfl, RdC.nil _, HB2.out⟩
  | true =>
    rw [hk] at CC
    rw [if_pos rfl]
    have k : Ck (vrc [z0, z1, z2, z3, z4, z5]) := dck_iff.1 hk
    obtain ⟨y, hy⟩ : ∃ y, [z0, z1, z2, z3, z4, z5] = y := ⟨_, rfl⟩
    have e0 : nm5 0 y = z0 := by rw [← hy]; rfl
    have CS : Hid (∀ a n c l u, RdC u a n c l → n ≤ 1000000 → Calls Tryz.prog 66 #[.agg #[.int .i64 z0, .int .i64 z1, .int .i64 z2, .int .i64 z3, .int .i64 z4, .int .i64 z5], .slice a n c] u (Ret u (l.map (spt y)))) := fun a n c l u h1 h2 => by
      rw [← hy]
      exact qseen_any z0 z1 z2 z3 z4 z5 k a n c l u h1 h2
    rw [hy]
    have HOK : Hid (∀ j : Nat, ∀ r ∈ qdm y ((ds.map ddl).take j), r.Ok) := fun j => qdm_ok
    have HLN : Hid (∀ j : Nat, j ≤ n → (qdm y ((ds.map ddl).take j)).length ≤ 1000000) := fun j hj => by
      have h1 := qdm_len (y := y) (M := 1000) (D := (ds.map ddl).take j) fun d hd' => by
        obtain ⟨x, hx, rfl⟩ := List.mem_map.1 (List.mem_of_mem_take hd')
        have := hd x hx
        have := (h.ok x hx).rc.len
        show x.l.length ≤ 1000
        omega
      have h2 : ((ds.map ddl).take j).length ≤ 1000 := by rw [List.length_take, List.length_map, h.len]; omega
      have h3 := Nat.mul_le_mul_right 1000 h2
      omega
    have HDN := hid hd
    clear hk h k hy hd
    go_enter Tryz.func42, Tryz.ntmps42
    go_wp2_with fail
    refine (qplace_any z0 z1 z2 z3 z4 z5 _).mono ?_
    rintro e w1 ⟨rfl, hb1⟩
    have HB1 := hid (Below.on HA.out hb1)
    have HV1 := hid (HV.out.on hb1)
    clear hb1 HV HA
    go_wp2_with fail
    refine (CC.out _).mono ?_
    rintro e w2 ⟨rfl, hb2⟩
    have HB2 := hid (Below.on HB1.out hb2)
    have HV2 := hid (HV1.out.on hb2)
    clear hb2 HB1 HV1 CC
    go_wp2
    go_loopw [5, 14] (fun v i wr => ∃ j : Nat, i = .int .i64 j ∧ j ≤ n ∧ OwC w2 wr v (qdm y ((ds.map ddl).take j))) (fun _ i _ => n - (numOf i).toNat)
    case atStart => exact ⟨0, rfl, by omega, OwC.nil w2⟩
    case round =>
      obtain ⟨j, rfl, hj, hO⟩ := hrel
      have HO := hid hO
      have HLJ := hid (HLN.out j hj)
      obtain ⟨av, cv, rfl, _⟩ := rdc_of_owns hO.own (HOK.out j)
      clear hO
      by_cases hgo : j < n
      · have e1 : decide ((j : Int) < n) = true := decide_eq_true (by omega)
        have e2 : (j : Int) < n := by omega
        obtain ⟨b, off, d, rfl, hb, hr, ok, d0, d1⟩ := ((HR.out.on HB2.out).on HO.out.bel).el hgo
        have hdn := HDN.out d (List.mem_of_getElem? hr)
        have hrm : (ds.map ddl)[j]? = some (ddl d) := by rw [List.getElem?_map, hr]; rfl
        have HS1 : Hid (d.s = z0 → qdm y ((ds.map ddl).take (j + 1)) = qdm y ((ds.map ddl).take j) ++ d.l.map (spt y)) := fun h => by
          rw [qdm_snoc hrm, if_pos (show (ddl d).1 = nm5 0 y by rw [e0]; exact h)]
          rfl
        have HS0 : Hid (d.s ≠ z0 → qdm y ((ds.map ddl).take (j + 1)) = qdm y ((ds.map ddl).take j)) := fun h => by
          rw [qdm_snoc hrm, if_neg (show ¬ (ddl d).1 = nm5 0 y by rw [e0]; exact h), List.append_nil]
        have HOKN := hid (HOK.out (j + 1))
        have hbA := bel_new wr (.cells #[.int .i64 d.s, .slice d.a d.n d.c] 99)
        have HA := hid hbA
        have HD := hid ok.rc
        have hv0 := (HV2.out.on HO.out.bel).cell 0
        have HV0 := hid hv0
        obtain ⟨s, da, dn, dc, dl⟩ := d
        dsimp only at d0 d1 HA HD HS1 HS0 hdn
        generalize qdm y ((ds.map ddl).take j) = A0 at HO HS1 HS0 HLJ
        have hdl := HD.out.len
        clear hr hrm ok hbA hv0 HV0
        by_cases hse : s = z0
        · have HS := hid (HS1.out hse)
          clear HS1 HS0
          subst hse
          have t1 : (s == s) = true := by simp
          have t2 : (decide (s = s)) = true := by simp
          have vv := HV2.out.on HO.out.bel
          have q0 := vv.cell 0
          have q1 := vv.cell 1
          have q2 := vv.cell 2
          have q3 := vv.cell 3
          have q4 := vv.cell 4
          have q5 := vv.cell 5
          have ql := vv.lt
          clear vv
          have CS2 := hid (CS.out da dn dc dl _ (HD.out.on HA.out) (by omega))
          have HO2 := hid (HO.out.on HA.out)
          clear HO HD HA
          go_wp2_with fail
          refine CS2.out.mono ?_
          rintro e w4 ⟨a4, c4, rfl, h4, hb4⟩
          have HO3 := hid (HO2.out.on hb4)
          have HSR := hid (h4.src (P := Tryz.prog) (t := 25) (e := 67) Tryz.underlying25)
          have HLM : Hid ((dl.map (spt y)).length = dn) := by rw [Hid, List.length_map]; exact hdl
          generalize dl.map (spt y) = M at HSR HLM HS h4
          clear h4 hb4 HO2 CS2 d0 d1 q0 q1 q2 q3 q4 q5
          go_wp2_with (at_builtin; refine wpList_append_own_src _ rfl (.tmp 23) (.tmp 27) 25 25 rfl w2.heap.size 67 i0 (.agg #[.int .i64 0, .int .i64 0, .int .i64 0, .int .i64 0]) 4 32 Tryz.underlying25 hi hz0 hz1 hz2 rfl _ _ _ rfl HO3.out.own _ M.length _ rfl HSR.out (by have h1 := HLJ.out; have h2 := HLM.out; simp only [maxLen]; omega) (fits32 (by have h1 := HLJ.out; have h2 := HLM.out; omega)) HO3.out.size ?_; intro v5 w5 o5 g5; have HO5 := hid (HO3.out.grown (m := M) o5 g5); clear o5 g5)
          go_roundw
          case rel => exact ⟨j + 1, by go_num, by omega, by rw [HS.out]; exact HO5.out⟩
          case measure => simp [numOf]; omega
        · have t1 : (s == z0) = false := by simpa using hse
          have t2 : (decide (s = z0)) = false := by simpa using hse
          have HS := hid (HS0.out hse)
          clear HS1 HS0
          have vv := HV2.out.on HO.out.bel
          have q0 := vv.cell 0
          have ql := vv.lt
          clear vv
          have HO2 := hid (HO.out.on HA.out)
          clear HO HD HA
          go_wp2
          go_roundw
          case rel => exact ⟨j + 1, by go_num, by omega, by rw [HS.out]; exact HO2.out⟩
          case measure => simp [numOf]; omega
      · have e1 : decide ((j : Int) < n) = false := decide_eq_false (by omega)
        have HE : Hid ((ds.map ddl).take j = ds.map ddl) := List.take_of_length_le (by rw [List.length_map, HL.out]; omega)
        have hF := (HO.out.base HB2.out).ret (HOK.out j)
        rw [HE.out] at hF
        have HF := hid hF
        rw [HE.out]
        clear hF
        go_wp2
        go_ret
        exact HF.out
end Go.Proofs.YtlkodgmnhphfcaaGreatDoor

/- Repaint: the contract of the program's Changed. -/
namespace Go.Proofs.YtlkodgmnhphfcaaGreatDoor
open Go Go.RowKit

theorem qhp_same (y : List Int) (D : List (Int × List Rc)) : qhp (some y) (some y) D = if dck (vrc y) = true then qdm y D else [] := by
  rw [qhp, if_pos rfl]
  rfl
theorem qhp_diff {o v : Option (List Int)} (h : o ≠ v) (D : List (Int × List Rc)) : qhp o v D = (o.toList ++ v.toList).map vrc := by
  cases o with
  | none => cases v <;> rfl
  | some a =>
    cases v with
    | none => rfl
    | some b =>
      rw [qhp, if_neg (fun e => h (by rw [e]))]
      rfl
theorem qhp_len (o v : Option (List Int)) {D : List (Int × List Rc)} (hD : D.length ≤ 1000) (hd : ∀ d ∈ D, d.2.length ≤ 100) : (qhp o v D).length ≤ 100000 := by
  by_cases h : o = v
  · subst h
    cases o with
    | none => exact Nat.zero_le _
    | some y =>
      rw [qhp_same]
      split
      · have h1 := qdm_len (y := y) hd
        omega
      · exact Nat.zero_le _
  · rw [qhp_diff h, List.length_map, List.length_append]
    have h1 : o.toList.length ≤ 1 := by cases o <;> simp
    have h2 : v.toList.length ≤ 1 := by cases v <;> simp
    omega
theorem qhN_len (o v : List (List Int)) {D : List (Int × List Rc)} (hD : D.length ≤ 1000) (hd : ∀ d ∈ D, d.2.length ≤ 100) (k : Nat) : (qhN o v D k).length ≤ k * 100000 := by
  induction k with
  | zero => simp [qhN]
  | succ k ih =>
    have h := qhp_len o[k]? v[k]? hD hd
    rw [qhN_succ, List.length_append, Nat.add_mul, Nat.one_mul]
    omega
theorem qhp_ok {o v : Option (List Int)} {D : List (Int × List Rc)} (ho : ∀ y ∈ o.toList, (vrc y).Ok) (hv : ∀ y ∈ v.toList, (vrc y).Ok) : ∀ r ∈ qhp o v D, r.Ok := fun r hr => by
  by_cases h : o = v
  · subst h
    cases o with
    | none => cases hr
    | some y =>
      rw [qhp_same] at hr
      split at hr
      · exact qdm_ok r hr
      · cases hr
  · rw [qhp_diff h] at hr
    obtain ⟨y, hy, rfl⟩ := List.mem_map.1 hr
    rcases List.mem_append.1 hy with hy | hy
    · exact ho y hy
    · exact hv y hy
theorem opt_mem {α : Type} {l : List α} {k : Nat} {y : α} (h : y ∈ (l[k]?).toList) : y ∈ l := by
  cases e : l[k]? with
  | none => rw [e] at h; cases h
  | some x =>
    rw [e] at h
    obtain rfl : y = x := by simpa using h
    exact List.mem_of_getElem? e
theorem qhN_ok {o v : List (List Int)} {D : List (Int × List Rc)} (ho : ∀ y ∈ o, (vrc y).Ok) (hv : ∀ y ∈ v, (vrc y).Ok) (k : Nat) : ∀ r ∈ qhN o v D k, r.Ok := by
  induction k with
  | zero => intro r hr; cases hr
  | succ k ih =>
    intro r hr
    rw [qhN_succ] at hr
    rcases List.mem_append.1 hr with hr | hr
    · exact ih r hr
    · exact qhp_ok (fun y hy => ho y (opt_mem hy)) (fun y hy => hv y (opt_mem hy)) r hr

theorem infoVq : (Tryz.prog.info? 65).map (fun i => (i.zero, i.size, i.bytes)) = some (some (.agg #[.int .i64 0, .int .i64 0, .int .i64 0, .int .i64 0, .int .i64 0, .int .i64 0]), 6, 48) := by kernel_rfl
set_option maxRecDepth 100000 in
set_option maxHeartbeats 4000000 in
theorem qchanged_any (a : Option Addr) (n c : Nat) (o : List (List Int)) (a' : Option Addr) (n' c' : Nat) (v : List (List Int)) (a2 : Option Addr) (n2 c2 : Nat) (ds : List Dv) (w : World) (h : RdM 6 w a n c o) (h' : RdM 6 w a' n' c' v) (hd : RdD w a2 n2 c2 ds) (ho : ∀ y ∈ o, (vrc y).Ok) (hv : ∀ y ∈ v, (vrc y).Ok) (hn : n ≤ 1000) (hn' : n' ≤ 1000) (hnd : n2 ≤ 1000) (hdn : ∀ d ∈ ds, d.n ≤ 100) :
    Calls Tryz.prog 22 #[.slice a n c, .slice a' n' c', .slice a2 n2 c2] w (Ret w (dfl (chl o v (ds.map ddl)))) := by
  obtain ⟨i0, hi, hz0, hz1, hz2⟩ := info3 infoC
  obtain ⟨i1, hj1, hy0, hy1, hy2⟩ := infoMP infoVq
  obtain ⟨M, hM⟩ : ∃ M, max n n' = M := ⟨_, rfl⟩
  have e0 : max (n : Int) (n' : Int) = (M : Int) := by omega
  have HM := hid hM
  have hM1 : M ≤ 1000 := by omega
  have HR := hid h
  have HR' := hid h'
  have HD := hid hd
  have HL := hid h.len
  have HL' := hid h'.len
  have hs := h.small
  have hs' := h'.small
  have hs2 := hd.small
  obtain ⟨D, hDD⟩ : ∃ D, ds.map ddl = D := ⟨_, rfl⟩
  have hDl : D.length ≤ 1000 := by rw [← hDD, List.length_map, hd.len]; exact hnd
  have hDd : ∀ d ∈ D, d.2.length ≤ 100 := fun d hm => by
    rw [← hDD] at hm
    obtain ⟨x, hx, rfl⟩ := List.mem_map.1 hm
    have := hdn x hx
    have := (hd.ok x hx).rc.len
    show x.l.length ≤ 100
    omega
  have HLN : Hid (∀ j : Nat, j ≤ M → (qhN o v D j).length ≤ 100000000) := fun j hj => by
    have h1 := qhN_len o v hDl hDd j
    have h2 := Nat.mul_le_mul_right 100000 (Nat.le_trans hj hM1)
    omega
  have HLO : Hid (∀ j : Nat, (qhp o[j]? v[j]? D).length ≤ 100000) := fun j => qhp_len _ _ hDl hDd
  have HOK : Hid (∀ j : Nat, ∀ r ∈ qhN o v D j, r.Ok) := fun j => qhN_ok ho hv j
  have HVO := hid ho
  have HVV := hid hv
  have HDN : Hid (∀ d ∈ ds, d.n ≤ 1000) := fun d hm => by have := hdn d hm; omega
  have HE : Hid (dfl (qhN o v D M) = dfl (chl o v D)) := by
    rw [Hid, qhN_dfl, chl, HL.out, HL'.out, HM.out]
  have HFL : Hid (∀ a c l u, RdC u a l.length c l → Calls Tryz.prog 44 #[.slice a l.length c] u (Ret u (dfl l))) := fun a c l u hu => dflat_any a _ c l u hu
  have HDM := hid hDD
  rw [hDD]
  generalize dfl (chl o v D) = R at HE ⊢
  clear h h' hd ho hv hdn hDl hDd hM hDD
  go_enter Tryz.func22, Tryz.ntmps22
  go_wp2
  go_loopw [7, 16] (fun s7 i wr => ∃ j : Nat, i = .int .i64 j ∧ j ≤ M ∧ OwC w wr s7 (qhN o v D j)) (fun _ i _ => M - (numOf i).toNat)
  case atStart => exact ⟨0, rfl, by omega, OwC.nil w⟩
  case round =>
    obtain ⟨j, rfl, hj, hO⟩ := hrel
    have HO := hid hO
    have HLJ := hid (HLN.out j hj)
    obtain ⟨av, cv, rfl, hrv⟩ := rdc_of_owns hO.own (HOK.out j)
    by_cases hgo : j < M
    · have e1 : decide ((j : Int) < M) = true := decide_eq_true (by omega)
      have e2 : (j : Int) < M := by omega
      have C1 := hid (qat_any a n c o wr (HR.out.on HO.out.bel) j (by omega))
      have C2 := hid (qat_any a' n' c' v wr (HR'.out.on HO.out.bel) j (by omega))
      have HS := hid (qhN_succ o v D j)
      have HPL := hid (HLO.out j)
      have HV1 : Hid (∀ y ∈ (o[j]?).toList, (vrc y).Ok) := fun y hy => HVO.out y (opt_mem hy)
      have HV2 : Hid (∀ y ∈ (v[j]?).toList, (vrc y).Ok) := fun y hy => HVV.out y (opt_mem hy)
      have hne : o[j]? ≠ none ∨ v[j]? ≠ none := by
        rcases Nat.lt_or_ge j n with h1 | h1
        · exact .inl (by rw [List.getElem?_eq_getElem (by rw [HL.out]; exact h1)]; simp)
        · exact .inr (by rw [List.getElem?_eq_getElem (by rw [HL'.out]; have := HM.out; omega)]; simp)
      generalize o[j]? = oj at C1 HS HPL HV1 hne
      generalize v[j]? = vj at C2 HS HPL HV2 hne
      generalize qhN o v D j = A0 at HO HLJ HS
      have C3 : Hid (∀ a3 a4, RdM 6 wr a3 oj.toList.length oj.toList.length oj.toList → RdM 6 wr a4 vj.toList.length vj.toList.length vj.toList → Calls Tryz.prog 41 #[.slice a3 oj.toList.length oj.toList.length, .slice a4 vj.toList.length vj.toList.length] wr fun e w' => e = .returned (.bool (decide (oj = vj))) ∧ ∃ q, w' = wr.drewN q) := fun a3 a4 h3 h4 => qsame_any a3 a4 oj vj wr h3 h4 hne
      clear hO hrv
      by_cases hsm : oj = vj
      · subst hsm
        rw [show decide (oj = oj) = true by simp] at C3
        cases oj with
        | none => simp at hne
        | some y =>
          rw [qhp_same] at HS HPL
          have HY := hid (HV2.out y (by simp))
          have HX := HR'.out.size
          clear hne HV1 HV2
          go_wp2_with fail
          refine C1.out.mono ?_
          rintro e u1 ⟨⟨a3, rfl, h3⟩, rfl⟩
          have H3 := hid h3
          clear h3
          go_wp2_with fail
          refine C2.out.mono ?_
          rintro e u2 ⟨⟨a4, rfl, h4⟩, rfl⟩
          have H4 := hid h4
          clear h4 C1 C2
          go_wp2_with fail
          refine (C3.out a3 a4 H3.out H4.out).mono ?_
          rintro e u3 ⟨rfl, q, rfl⟩
          have HO3 := hid (HO.out.on (below_drewN (Below.refl _ _) q))
          have h4 := H4.out.drewN q
          clear C3 H3 H4 HO
          obtain ⟨b4, off4, z0, z1, z2, z3, z4, z5, rfl, hb4, hy4, d0, d1, d2, d3, d4, d5⟩ := RdM.el6 (j := 0) h4 (show 0 < 1 by decide)
          simp only [Option.toList_some, List.getElem?_cons_zero, Option.some.injEq] at hy4
          subst hy4
          rw [Nat.zero_mul, Nat.add_zero] at d0 d1 d2 d3 d4 d5
          have CD := hid (qdamaged_any z0 z1 z2 z3 z4 z5 HY.out a2 n2 c2 ds _ (HD.out.on HO3.out.bel) hnd HDN.out)
          rw [HDM.out] at CD
          generalize (if dck (vrc [z0, z1, z2, z3, z4, z5]) = true then qdm [z0, z1, z2, z3, z4, z5] D else []) = B0 at CD HS HPL
          clear h4 HY
          go_wp2_with fail
          refine CD.out.mono ?_
          rintro e w5 ⟨a5, c5, rfl, h5, hb5⟩
          have HO5 := hid (HO3.out.on hb5)
          have HSR := hid (h5.src (P := Tryz.prog) (t := 25) (e := 67) Tryz.underlying25)
          clear h5 hb5 HO3 CD d0 d1 d2 d3 d4 d5
          go_wp2_with (at_builtin; refine wpList_append_own_src _ rfl (.tmp 28) (.tmp 33) 25 25 rfl w.heap.size 67 i0 (.agg #[.int .i64 0, .int .i64 0, .int .i64 0, .int .i64 0]) 4 32 Tryz.underlying25 hi hz0 hz1 hz2 rfl _ _ _ rfl HO5.out.own _ B0.length _ rfl HSR.out (by have h1 := HLJ.out; have h2 := HPL.out; simp only [maxLen]; omega) (fits32 (by have h1 := HLJ.out; have h2 := HPL.out; omega)) HO5.out.size ?_; intro v6 w6 o6 g6; have HO6 := hid (HO5.out.grown (m := B0) o6 g6); clear o6 g6)
          go_roundw
          case rel => exact ⟨j + 1, by go_num, by omega, by rw [HS.out]; exact HO6.out⟩
          case measure => simp [numOf]; omega
      · rw [show decide (oj = vj) = false by simpa using hsm] at C3
        rw [qhp_diff hsm] at HS HPL
        have hpos : 0 < oj.toList.length + vj.toList.length := by
          rcases hne with h1 | h1
          · cases oj with
            | none => exact absurd rfl h1
            | some y =>
              rw [Option.toList_some, List.length_singleton]
              omega
          · cases vj with
            | none => exact absurd rfl h1
            | some y =>
              rw [Option.toList_some, List.length_singleton]
              omega
        have hl1 : oj.toList.length ≤ 1 := by cases oj <;> simp
        have hl2 : vj.toList.length ≤ 1 := by cases vj <;> simp
        have HVA : Hid (∀ y ∈ oj.toList ++ vj.toList, (vrc y).Ok) := fun y hy => by
          rcases List.mem_append.1 hy with hy | hy
          · exact HV1.out y hy
          · exact HV2.out y hy
        clear hne HV1 HV2 hsm
        generalize oj.toList = ol at *
        generalize vj.toList = vl at *
        go_wp2_with fail
        refine C1.out.mono ?_
        rintro e u1 ⟨⟨a3, rfl, h3⟩, rfl⟩
        have H3 := hid h3
        clear h3
        go_wp2_with fail
        refine C2.out.mono ?_
        rintro e u2 ⟨⟨a4, rfl, h4⟩, rfl⟩
        have H4 := hid h4
        clear h4 C1 C2
        go_wp2_with fail
        refine (C3.out a3 a4 H3.out H4.out).mono ?_
        rintro e u3 ⟨rfl, q, rfl⟩
        have HO3 := hid (HO.out.on (below_drewN (Below.refl _ _) q))
        have H3' := hid (H3.out.drewN q)
        have H4' := hid (H4.out.drewN q)
        clear C3 H3 H4 HO
        go_wp2_with (at_builtin; refine wpList_append_full _ rfl (.tmp 36) (.tmp 37) 23 23 rfl 65 65 i1 (.agg #[.int .i64 0, .int .i64 0, .int .i64 0, .int .i64 0, .int .i64 0, .int .i64 0]) 6 48 Tryz.underlying23 Tryz.underlying23 hj1 hy0 hy1 hy2 rfl a3 ol.length ol rfl H3'.out a4 vl.length vl.length vl rfl H4'.out hpos (by simp only [maxLen]; omega) (fits48 (by omega) (by omega)) ?_; intro a6 c6 w6 hr6 hb6; have HR6 := hid hr6; have HO6 := hid (HO3.out.on hb6); clear hr6 hb6)
        clear H3' H4' HO3
        go_wp2_with fail
        refine (qplaces_any a6 _ c6 (ol ++ vl) _ HR6.out HVA.out (by omega)).mono ?_
        rintro e w7 ⟨a7, c7, rfl, h7, hb7⟩
        have HO7 := hid (HO6.out.on hb7)
        have HSR := hid (h7.src (P := Tryz.prog) (t := 25) (e := 67) Tryz.underlying25)
        generalize (ol ++ vl).map vrc = B0 at HSR HS HPL h7
        clear h7 hb7 HO6 HR6
        go_wp2_with (at_builtin; refine wpList_append_own_src _ rfl (.tmp 35) (.tmp 39) 25 25 rfl w.heap.size 67 i0 (.agg #[.int .i64 0, .int .i64 0, .int .i64 0, .int .i64 0]) 4 32 Tryz.underlying25 hi hz0 hz1 hz2 rfl _ _ _ rfl HO7.out.own _ B0.length _ rfl HSR.out (by have h1 := HLJ.out; have h2 := HPL.out; simp only [maxLen]; omega) (fits32 (by have h1 := HLJ.out; have h2 := HPL.out; omega)) HO7.out.size ?_; intro v8 w8 o8 g8; have HO8 := hid (HO7.out.grown (m := B0) o8 g8); clear o8 g8)
        go_roundw
        case rel => exact ⟨j + 1, by go_num, by omega, by rw [HS.out]; exact HO8.out⟩
        case measure => simp [numOf]; omega
    · have e1 : decide ((j : Int) < M) = false := decide_eq_false (by omega)
      obtain rfl : j = M := by omega
      have HB := hid hO.bel
      have CF := hid (HFL.out av cv _ wr hrv)
      rw [HE.out] at CF
      clear hO hrv HO HLJ
      go_wp2_with fail
      refine CF.out.mono ?_
      rintro e w9 ⟨a9, c9, rfl, h9, hb9⟩
      have H9 := hid h9
      have HB9 := hid (Below.on HB.out hb9)
      clear h9 hb9
      go_wp2
      go_ret
      exact ⟨a9, c9, rfl, H9.out, HB9.out⟩
end Go.Proofs.YtlkodgmnhphfcaaGreatDoor

/- tableaulaw09's awake. -/
namespace Go.Proofs.YtlkodgmnhphfcaaGreatDoor
open Go Go.RowKit

theorem dput_nil {r : Rc} (k : Ck r) : dput [] r = [r] := by
  have hd := dor reg_nil r
  have e : mk or [] (ofl r) = [r] := reg_eq hd.1 (reg_one k) fun x y => by rw [hd.2, ofl_ck k, pt_nil, Bool.false_or]
  rw [dput, e, if_neg (by simp)]
theorem ex_add : dput (dfl []) ⟨0, 0, 2, 2⟩ = [⟨0, 0, 2, 2⟩] := dput_nil ⟨by decide, by decide, by decide, by decide, by decide, by decide⟩
theorem ex_clip : mk and (dfl [⟨0, 0, 2, 2⟩]) (ofl ⟨5, 0, 1, 1⟩) = [] := by
  have k1 : Ck ⟨0, 0, 2, 2⟩ := ⟨by decide, by decide, by decide, by decide, by decide, by decide⟩
  have k2 : Ck ⟨5, 0, 1, 1⟩ := ⟨by decide, by decide, by decide, by decide, by decide, by decide⟩
  rw [show dfl [⟨0, 0, 2, 2⟩] = dput [] ⟨0, 0, 2, 2⟩ from rfl, dput_nil k1, ofl_ck k2]
  obtain ⟨h1, h2, _⟩ := mk_all (f := and) rfl (reg_one k1).ck (reg_one k2).ck
  refine reg_eq h1 reg_nil fun x y => ?_
  rw [h2, pt_nil, ← Bool.not_eq_true, Bool.and_eq_true, pt_iff, pt_iff]
  simp only [List.mem_singleton, exists_eq_left, has_iff]
  omega

end Go.Proofs.YtlkodgmnhphfcaaGreatDoor

/- Repaint: the law's dirt, near, awake. Laid by repaint/lay.sh. -/
namespace Go.Proofs.YtlkodgmnhphfcaaGreatDoor
open Go Go.RowKit

theorem owns_new {u : World} {base e m k n c : Nat} {a : Option Addr} {xs : List Value} (h : u.ownsRow base e m (.slice a n c) k xs) {x : Addr} (hx : a = some x) : base ≤ x.block := by
  rcases h.2 with ⟨h1, _⟩ | ⟨g, cap, cur, h1, hb, _⟩
  · cases h1; cases hx
  · cases h1
    cases hx
    exact hb

set_option maxRecDepth 100000 in
set_option maxHeartbeats 1000000 in
theorem nrects_any (a : Option Addr) (n c : Nat) (l : List Rc) (w : World) (h : RdC w a n c l) (hn : n ≤ 1000000) : Calls Tryz.prog 14 #[.slice a n c] w fun e w' => ∃ a' c', e = .returned (.slice a' n c') ∧ RdC w' a' n c' l ∧ (∀ x, a' = some x → w.heap.size ≤ x.block) ∧ Below w.heap.size w w' := by
  obtain ⟨i0, hi, hz0, hz1, hz2⟩ := info3 infoC
  have HSR := hid (h.src (P := Tryz.prog) (t := 25) Tryz.underlying25)
  have HL := hid h.len
  have HOK := hid h.ok
  have HFIN : Hid (∀ v' w', w'.ownsRow w.heap.size 67 4 v' (0 + n) ([] ++ rccs l) → w.grownBy w' (Value.slice none 0 0).ownBlock → ∃ a' c', Ending.returned v' = .returned (.slice a' n c') ∧ RdC w' a' n c' l ∧ (∀ x, a' = some x → w.heap.size ≤ x.block) ∧ Below w.heap.size w w') := fun v' w' o g => by
    rw [Nat.zero_add, List.nil_append] at o
    obtain ⟨a', c', rfl, hr⟩ := rdc_of_owns o HOK.out
    exact ⟨a', c', rfl, hr, fun x hx => owns_new o hx, (Below.refl _ _).grown g (Nat.le_refl _) (fun k hk => by cases hk)⟩
  clear h
  go_enter Tryz.func14, Tryz.ntmps14
  go_wp2_with (at_builtin; refine wpList_append_own_src _ rfl (.const (.slice none 0 0)) (.tmp 3) 25 25 rfl w.heap.size 67 i0 (.agg #[.int .i64 0, .int .i64 0, .int .i64 0, .int .i64 0]) 4 32 Tryz.underlying25 hi hz0 hz1 hz2 rfl (.slice none 0 0) 0 [] rfl (World.ownsRow_nil _ _ _ _) _ _ _ rfl HSR.out (by simp only [maxLen]; omega) (fits32 (by omega)) (Nat.le_refl _) ?_; intro v9 w9 o9 g9; have H9 := hid (HFIN.out _ _ o9 g9); clear o9 g9 HFIN HSR)
  go_wp2
  go_ret
  exact H9.out

theorem max4 {P : Program} (ts : Array TypeId) (t : TypeId) (x y z v : Int) (w : World) : (Builtin.max_ ts t #[.int .i64 x, .int .i64 y, .int .i64 z, .int .i64 v]).run P w = .ok (.int .i64 (max (max (max x y) z) v)) w := by
  have e : ∀ p q : Int, (if p < q then q else p) = max p q := fun p q => by
    rw [Int.max_def]
    split <;> split <;> omega
  simp [Builtin.max_, Builtin.max2, e]
theorem min4 {P : Program} (ts : Array TypeId) (t : TypeId) (x y z v : Int) (w : World) : (Builtin.min_ ts t #[.int .i64 x, .int .i64 y, .int .i64 z, .int .i64 v]).run P w = .ok (.int .i64 (min (min (min x y) z) v)) w := by
  have e : ∀ p q : Int, (if q < p then q else p) = min p q := fun p q => by
    rw [Int.min_def]
    split <;> split <;> omega
  simp [Builtin.min_, Builtin.min2, e]
/-- Views where sums do not go round. -/
def nrv (y : List Int) : Bool := decide (max (max (max (nm5 2 y) (nm5 3 y)) (nm5 4 y)) (nm5 5 y) ≤ 67108864) && decide (-67108864 ≤ min (min (min (nm5 2 y) (nm5 3 y)) (nm5 4 y)) (nm5 5 y))
def nrB (l : List (List Int)) : Bool := l.all nrv && decide (l.length ≤ 10)
theorem nrB_len {l : List (List Int)} (h : nrB l = true) : l.length ≤ 10 := by
  rw [nrB, Bool.and_eq_true] at h
  exact of_decide_eq_true h.2

set_option maxRecDepth 100000 in
set_option maxHeartbeats 4000000 in
theorem qnear_any (a : Option Addr) (n c : Nat) (l : List (List Int)) (w : World) (h : RdM 6 w a n c l) :
    Calls Tryz.prog 20 #[.slice a n c] w fun e w' => e = .returned (.bool (nrB l)) ∧ Below w.heap.size w w' := by
  have HR := hid h
  have HL := hid h.len
  have hs := h.small
  obtain ⟨R, hR⟩ : ∃ R, nrB l = R := ⟨_, rfl⟩
  have HRR := hid hR
  rw [hR]
  clear h hR
  go_enter Tryz.func20, Tryz.ntmps20
  go_wp2
  go_loopw [3] (fun i wr => ∃ j : Nat, i = .int .i64 j ∧ j ≤ n ∧ (l.take j).all nrv = true ∧ Below w.heap.size w wr) (fun i _ => n - (numOf i).toNat)
  case atStart => exact ⟨0, rfl, by omega, rfl, Below.refl _ _⟩
  case round =>
    obtain ⟨j, rfl, hj, hA, hb⟩ := hrel
    have HA := hid hA
    have HB := hid hb
    clear hA hb
    by_cases hgo : j < n
    · have e1 : decide ((j : Int) < n) = true := decide_eq_true (by omega)
      have e2 : (j : Int) < n := by omega
      obtain ⟨b, off, z0, z1, z2, z3, z4, z5, rfl, hb, hy, d0, d1, d2, d3, d4, d5⟩ := (HR.out.on HB.out).el6 hgo
      have HS : Hid ((l.take (j + 1)).all nrv = nrv [z0, z1, z2, z3, z4, z5]) := by
        rw [Hid, List.take_add_one, hy, List.all_append, HA.out, Bool.true_and, Option.toList_some, List.all_cons, List.all_nil, Bool.and_true]
      have HM : Hid (nrv [z0, z1, z2, z3, z4, z5] = false → R = false) := fun h => by
        rw [← HRR.out, nrB, Bool.and_eq_false_iff]
        refine .inl ?_
        rw [List.all_eq_false]
        exact ⟨_, List.mem_of_getElem? hy, by rw [h]; decide⟩
      have HN : Hid (nrv [z0, z1, z2, z3, z4, z5] = (decide (max (max (max z2 z3) z4) z5 ≤ 67108864) && decide (-67108864 ≤ min (min (min z2 z3) z4) z5))) := rfl
      have hA := bel_new wr (.cells #[.int .i64 z0, .int .i64 z1, .int .i64 z2, .int .i64 z3, .int .i64 z4, .int .i64 z5] 65)
      have HB2 := hid (Below.on HB.out hA)
      have m1 := max4 (P := Tryz.prog) #[3, 3, 3, 3] 3 z2 z3 z4 z5
      have m2 := min4 (P := Tryz.prog) #[3, 3, 3, 3] 3 z2 z3 z4 z5
      obtain ⟨mx, hmx⟩ : ∃ m, max (max (max z2 z3) z4) z5 = m := ⟨_, rfl⟩
      obtain ⟨mn, hmn⟩ : ∃ m, min (min (min z2 z3) z4) z5 = m := ⟨_, rfl⟩
      rw [hmx] at m1 HN
      rw [hmn] at m2 HN
      clear hy hA hb HB hmx hmn
      by_cases h1 : 67108864 < mx
      · have t1 : decide (67108864 < mx) = true := decide_eq_true h1
        have HF := hid (HM.out (by rw [HN.out, decide_eq_false (by omega), Bool.false_and]))
        clear HM HS HN
        go_wp2
        go_ret
        exact ⟨by rw [HF.out]; rfl, HB2.out⟩
      · have t1 : decide (67108864 < mx) = false := decide_eq_false h1
        by_cases h2 : mn < -67108864
        · have t2 : decide (mn < -67108864) = true := decide_eq_true h2
          have HF := hid (HM.out (by rw [HN.out, decide_eq_false (p := -67108864 ≤ mn) (by omega), Bool.and_false]))
          clear HM HS HN
          go_wp2
          go_ret
          exact ⟨by rw [HF.out]; rfl, HB2.out⟩
        · have t2 : decide (mn < -67108864) = false := decide_eq_false h2
          have HT : Hid ((l.take (j + 1)).all nrv = true) := by
            rw [Hid, HS.out, HN.out, decide_eq_true (by omega), decide_eq_true (by omega)]
            rfl
          clear HM HS HN
          go_wp2
          go_roundw
          case rel => exact ⟨j + 1, by go_num, by omega, HT.out, HB2.out⟩
          case measure => simp [numOf]; omega
    · have e1 : decide ((j : Int) < n) = false := decide_eq_false (by omega)
      have HF : Hid (R = decide ((n : Int) ≤ 10)) := by
        have h1 := HA.out
        rw [List.take_of_length_le (by rw [HL.out]; omega)] at h1
        rw [Hid, ← HRR.out, nrB, h1, Bool.true_and, HL.out, Bool.eq_iff_iff, decide_eq_true_eq, decide_eq_true_eq]
        omega
      go_wp2
      go_ret
      exact ⟨by rw [HF.out]; rfl, HB.out⟩

/-- Whether there is not too much. -/
def diOk (ds : List Dv) : Bool := decide (ds.length ≤ 8) && ds.all fun d => decide (d.n ≤ 8)
theorem diOk_len {ds : List Dv} (h : diOk ds = true) : ds.length ≤ 8 := by
  rw [diOk, Bool.and_eq_true] at h
  exact of_decide_eq_true h.1
/-- What dirt answers. -/
def DiR (w : World) (ds : List Dv) (e : Ending) (w' : World) : Prop := ∃ v, e = .returned (.tuple #[v, .bool (diOk ds)]) ∧ Below w.heap.size w w' ∧ (diOk ds = true → ∃ a n c hs, v = .slice a n c ∧ RdD w' a n c hs ∧ hs.map ddl = ds.map ddl ∧ (∀ d ∈ hs, d.n ≤ 8) ∧ n ≤ 8)


theorem ex24_one : dfl (chl [] [[1, 0, 0, 0, 2, 2]] []) = [⟨0, 0, 2, 2⟩] := dput_nil (r := ⟨0, 0, 2, 2⟩) ⟨by decide, by decide, by decide, by decide, by decide, by decide⟩
set_option maxRecDepth 100000 in
set_option maxHeartbeats 1000000 in
theorem qawake24_any (w : World) : Calls Tryz.prog 9 #[] w fun e w' => e = .returned (.bool true) ∧ Below w.heap.size w w' := by
  have hg := eqlR_guard
  have q := eqlR ⟨0, 0, 2, 2⟩ ⟨0, 0, 2, 2⟩
  rw [rceq_same] at q
  dsimp only at q
  have okv : ∀ y ∈ ([[1, 0, 0, 0, 2, 2]] : List (List Int)), (vrc y).Ok := fun y hy => by
    rw [List.mem_singleton.1 hy]
    exact ⟨by decide, by decide, by decide, by decide⟩
  have hL : RdM 6 (w.alloc (.cells #[.int .i64 1, .int .i64 0, .int .i64 0, .int .i64 0, .int .i64 2, .int .i64 2] 65)) (some ⟨w.heap.size, 0, none⟩) 1 1 [[1, 0, 0, 0, 2, 2]] := by
    refine ⟨rfl, Nat.le_refl _, by decide, (fun h => by cases h), fun _ => ⟨w.heap.size, 0, rfl, by simp, fun j y hj k z hz => ?_⟩, fun y hy => by rw [List.mem_singleton.1 hy]; rfl⟩
    match j, hj with
    | 0, hj =>
      cases hj
      rw [Nat.zero_mul, Nat.zero_add, Nat.zero_add, (bk_new w #[.int .i64 1, .int .i64 0, .int .i64 0, .int .i64 0, .int .i64 2, .int .i64 2] 65).cell]
      match k, hz with
      | 0, hz => cases hz; rfl
      | 1, hz => cases hz; rfl
      | 2, hz => cases hz; rfl
      | 3, hz => cases hz; rfl
      | 4, hz => cases hz; rfl
      | 5, hz => cases hz; rfl
  have HB := hid (bel_new w (.cells #[.int .i64 1, .int .i64 0, .int .i64 0, .int .i64 0, .int .i64 2, .int .i64 2] 65))
  have C1 := hid (qchanged_any none 0 0 [] (some ⟨w.heap.size, 0, none⟩) 1 1 [[1, 0, 0, 0, 2, 2]] none 0 0 [] _ (RdM.nil 6 _) hL (RdD.nil _) (by simp) okv (by omega) (by omega) (by omega) (by simp))
  rw [show (([] : List Dv).map ddl) = [] from rfl, ex24_one] at C1
  have C2 := hid (fun u hu => qchanged_any (some ⟨w.heap.size, 0, none⟩) 1 1 [[1, 0, 0, 0, 2, 2]] (some ⟨w.heap.size, 0, none⟩) 1 1 [[1, 0, 0, 0, 2, 2]] none 0 0 [] u hu hu (RdD.nil _) okv okv (by omega) (by omega) (by omega) (by simp))
  rw [show dfl (chl [[1, 0, 0, 0, 2, 2]] [[1, 0, 0, 0, 2, 2]] (([] : List Dv).map ddl)) = [] from by rw [ch_same (by simp)]; rfl] at C2
  have HLL := hid hL
  clear hL okv
  go_enter Tryz.func9, Tryz.ntmps9
  go_wp2_with fail
  refine C1.out.mono ?_
  rintro e w1 ⟨a1, c1, rfl, h1, hb1⟩
  have HB1 := hid (Below.on HB.out hb1)
  have HL1 := hid (HLL.out.on hb1)
  have H1 := hid h1
  clear h1 hb1 C1 HB HLL
  go_wp2_with fail
  refine (C2.out _ HL1.out).mono ?_
  rintro e w2 ⟨a2, c2, rfl, h2, hb2⟩
  have HB2 := hid (Below.on HB1.out hb2)
  obtain ⟨b, off, rfl, _, hel⟩ := (H1.out.on hb2).pl (by decide)
  obtain ⟨_, d0, d1, d2, d3⟩ := hel 0 ⟨0, 0, 2, 2⟩ rfl
  simp only [Nat.zero_mul, Nat.add_zero] at d0 d1 d2 d3
  clear hb2 h2 H1 HL1 C2 hel HB1
  go_wp2
  go_ret
  exact ⟨rfl, HB2.out⟩
end Go.Proofs.YtlkodgmnhphfcaaGreatDoor

/- A slice of the document's images, as it comes in: opened. -/
namespace Go.Proofs.YtlkodgmnhphfcaaGreatDoor
open Go Go.ChangeShapes Go.WideShapes Go.ChangeAt Go.RowKit Go.Deep

theorem i64_of {n : Int} (h : (Lit.int .i64 n).wf = true) : I64 n := by
  unfold I64
  simpa [Lit.wf, IntKind.min, IntKind.max, IntKind.signed, IntKind.bits] using h

theorem cellsImg : Tryz.prog.cellsOf 57 = 4 := by kernel_rfl

variable {H : Type} {enc : TypeId × Value → H} {W : World} {d : DataW H} {p : List MemPlace}

set_option maxRecDepth 100000 in
theorem open_pts {k : Nat} {c : Value} {x : DataW H × List MemPlace} (h : DataW.trod enc Tryz.prog W 0 (fun _ => true) true k 43 [c] = some x) : ∃ a m c' l, c = .slice a m c' ∧ RdI .u32 W a m c' l := by
  rcases open_ints Tryz.underlying43 Tryz.underlying22 (by kernel_rfl) h with ⟨hcs, _⟩ | ⟨y, l', c', zs, hcs, _, hl', hm', hz, hD, hcell, hwz⟩
  · simp only [List.cons.injEq, and_true] at hcs
    subst hcs
    exact ⟨none, 0, 0, [], rfl, RdI.nil _ W⟩
  · simp only [List.cons.injEq, and_true] at hcs
    subst hcs
    have hz1 : zs.length = c' := by simpa using hz
    exact ⟨some y, l', c', _, rfl, RdI.ofRow hl' hm' (by rw [hz1, Nat.mul_one]) hcell hwz⟩

set_option maxRecDepth 100000 in
theorem open_img {n : Nat} {cs : List Value} {x : DataW H × List MemPlace} (h : DataW.trod enc Tryz.prog W 0 (fun _ => true) true n 57 cs = some x) : ∃ g : Gv, cs = (gvv g).toList ∧ GOk W g := by
  obtain ⟨xs, k, _, _, hl, hlen, hx⟩ := DataW.trod_struct Tryz.underlying57 h
  rw [cellsImg] at hl
  match cs, hl, xs, hlen with
  | [c0, c1, c2, c3], _, [x0, x1, x2, x3], _ =>
    have h0 : DataW.trod enc Tryz.prog W 0 (fun _ => true) true k 3 (([c0, c1, c2, c3].drop 0).take (Tryz.prog.cellsOf 3)) = some x0 := hx 0 _ rfl
    have h1 : DataW.trod enc Tryz.prog W 0 (fun _ => true) true k 3 (([c0, c1, c2, c3].drop 1).take (Tryz.prog.cellsOf 3)) = some x1 := hx 1 _ rfl
    have h2 : DataW.trod enc Tryz.prog W 0 (fun _ => true) true k 3 (([c0, c1, c2, c3].drop 2).take (Tryz.prog.cellsOf 3)) = some x2 := hx 2 _ rfl
    have h3 : DataW.trod enc Tryz.prog W 0 (fun _ => true) true k 43 (([c0, c1, c2, c3].drop 3).take (Tryz.prog.cellsOf 43)) = some x3 := hx 3 _ rfl
    have k3 : Tryz.prog.cellsOf 3 = 1 := by kernel_rfl
    have k6 : Tryz.prog.cellsOf 43 = 1 := by kernel_rfl
    simp only [k3, k6, List.drop_zero, List.drop_succ_cons, List.take_succ_cons, List.take_zero] at h0 h1 h2 h3
    obtain ⟨a0, e0, _, w0⟩ := DataW.trod_int Tryz.underlying3 h0
    obtain ⟨a1, e1, _, w1⟩ := DataW.trod_int Tryz.underlying3 h1
    obtain ⟨a2, e2, _, w2⟩ := DataW.trod_int Tryz.underlying3 h2
    simp only [List.cons.injEq, and_true] at e0 e1 e2
    subst e0 e1 e2
    obtain ⟨a, m, c, pix, rfl, hp⟩ := open_pts h3
    exact ⟨⟨a0, a1, a2, a, m, c, pix⟩, rfl, ⟨i64_of w0, i64_of w1, i64_of w2, hp⟩⟩

set_option maxRecDepth 100000 in
theorem open_imgs {a : Option Addr} {n c : Nat} (h : DataW.Trod enc Tryz.prog W 0 (fun _ => true) true 24 (.slice a n c) d p) : ∃ gs, RdG W a n c gs := by
  obtain ⟨fuel, hf⟩ := h
  rcases open_slice Tryz.underlying24 hf with ⟨hcs, _⟩ | ⟨a, len, cap, mm, k, D, Pl, hcs, hb, hl, hm, hmm, _, hx⟩
  · simp [Value.cells] at hcs
    obtain ⟨rfl, rfl, rfl⟩ := hcs
    exact ⟨[], RdG.nil W⟩
  · simp [Value.cells] at hcs
    obtain ⟨rfl, rfl, rfl⟩ := hcs
    simp only [if_true] at hmm
    subst hmm
    rw [cellsImg] at hx
    have each : ∀ i, i < n → ∃ g : Gv, GOk W g ∧ ∀ q v, (gvv g)[q]? = some v → W.cell? (a.add (i * 4 + q)) = some v := fun i hi => by
      obtain ⟨cs', h1, h2⟩ := hx i (by omega)
      obtain ⟨g, rfl, hg⟩ := open_img h2
      refine ⟨g, hg, fun q v hq => ?_⟩
      obtain ⟨_, _, hcc⟩ := World.cells?_some h1
      have hlt : q < 4 := by
        have := (Array.getElem?_eq_some_iff.1 hq).1
        simpa [gvv] using this
      have := hcc q hlt
      rw [Array.getElem?_toList, hq, add_add] at this
      exact this
    haveI : Inhabited Gv := ⟨gz⟩
    obtain ⟨f, hfn⟩ := choose_lt (α := Gv) each
    by_cases hn : n = 0
    · subst hn
      exact ⟨[], rfl, hl, hm, (fun h => by cases h), fun h => absurd h (by omega), by simp⟩
    obtain ⟨b, off, spot⟩ := a
    have hspot : spot = none := by
      have z0 := (hfn 0 (by omega)).2 0 _ rfl
      simpa [Addr.add] using World.cell?_spot z0
    subst hspot
    have q0 := (hfn 0 (by omega)).2 0 _ rfl
    refine ⟨(List.range n).map f, by simp, hl, hm, (fun h => by cases h), fun _ => ⟨b, off, rfl, ?_, fun j g hj i v hv => ?_⟩, fun g hg => ?_⟩
    · rw [add_plain] at q0
      exact World.block_lt_of_cell? W _ q0
    · rw [List.getElem?_map] at hj
      obtain ⟨i', hi', rfl⟩ := Option.map_eq_some_iff.1 hj
      have hlt : j < n := by
        rcases Nat.lt_or_ge j n with h' | h'
        · exact h'
        · rw [List.getElem?_eq_none (by simpa using h')] at hi'; cases hi'
      rw [List.getElem?_range hlt] at hi'
      cases hi'
      rw [← add_plain]
      exact (hfn j hlt).2 i v hv
    · obtain ⟨i, hi, rfl⟩ := List.mem_map.1 hg
      exact (hfn i (List.mem_range.1 hi)).1
end Go.Proofs.YtlkodgmnhphfcaaGreatDoor

/- Repaint: why the part that has changed, painted anew, is the whole. Nothing of the program but its canvas. -/
namespace Go.Proofs.YtlkodgmnhphfcaaGreatDoor
open Go Go.RowKit

/-! Points. -/
theorem inC_ck {l : List Rc} (hk : ∀ r ∈ l, Ck r) (x y : Int) : inC l x y = pt l x y := by
  induction l with
  | nil => rfl
  | cons r l ih =>
    rw [pt_cons, ← ih fun a ha => hk a (by simp [ha])]
    simp only [inC, List.any_cons]
    rw [bnd_ck (hk r (by simp))]
/-- A rectangle that was added: its points are in the clip. -/
theorem inC_dfl {l : List Rc} {r : Rc} (hr : r ∈ l) (ok : r.Ok) {u v : Nat} (hu : u < 48) (hv : v < 48) (h : has r u v = true) : inC (dfl l) u v = true := by
  rw [inC_ck (dfl_reg l).ck]
  exact dfl_pts hr (by rw [ofl_has ok (by omega) (by omega)]; exact h)
theorem pto_out {l : List Rc} {I : List Im} {u v : Int} {z : Int} {y : List Int} (h : inC l u v = false) : pto l I u v z y = z := by
  unfold pto
  cases imf (nm5 1 y) I with
  | none => rfl
  | some x =>
    dsimp only
    rw [h, Bool.and_false, Bool.and_false]
    rfl
theorem foldl_out {l : List Rc} {I : List Im} {u v : Int} {V : List (List Int)} {z : Int} (h : inC l u v = false) : V.foldl (pto l I u v) z = z := by
  induction V generalizing z with
  | nil => rfl
  | cons y V ih => rw [List.foldl_cons, pto_out h, ih]
theorem pto_in {l m : List Rc} {I : List Im} {u v : Int} (h : inC l u v = inC m u v) : pto l I u v = pto m I u v := by
  funext z y
  unfold pto
  rw [h]
/-- In the clip a part is as the whole, outside of it nothing is turned. -/
theorem pnc_part {W H : Nat} {back : Int} {l m : List Rc} {V : List (List Int)} {I : List Im} {L M : List Int} (hL : L.length = W * H) (hM : M.length = W * H) {u v : Nat} (hu : u < W) (hv : v < H) (hm : inC m u v = true) : (pnc W back l V I L)[v * W + u]? = if inC l u v then (pnc W back m V I M)[v * W + u]? else L[v * W + u]? := by
  have hi := place_lt hu hv
  have e1 : L[v * W + u]? = some L[v * W + u] := List.getElem?_eq_getElem (by omega)
  have e2 : M[v * W + u]? = some M[v * W + u] := List.getElem?_eq_getElem (by omega)
  rw [pnc_get hu, pnc_get hu, e1, e2, Option.map_some, Option.map_some]
  cases h : inC l u v with
  | false =>
    rw [foldl_out h]
    simp
  | true => rw [pto_in (h.trans hm.symm), hm]; rfl
/-- Two lists that do the same at each place. -/
theorem foldl_same {f : Int → List Int → Int} : ∀ {x y : List (List Int)}, (∀ i : Nat, x[i]? = y[i]? ∨ ((∀ a, x[i]? = some a → ∀ z, f z a = z) ∧ ∀ b, y[i]? = some b → ∀ z, f z b = z)) → ∀ z, x.foldl f z = y.foldl f z
  | [], [], _, _ => rfl
  | [], b :: y, h, z => by
    have h0 := h 0
    simp only [List.getElem?_nil, List.getElem?_cons_zero, reduceCtorEq, false_or, Option.some.injEq, false_implies, implies_true, true_and, forall_eq'] at h0
    rw [List.foldl_cons, h0, ← foldl_same (x := []) (y := y) fun i => by simpa using h (i + 1)]
  | a :: x, [], h, z => by
    have h0 := h 0
    simp only [List.getElem?_nil, List.getElem?_cons_zero, reduceCtorEq, false_or, Option.some.injEq, false_implies, implies_true, and_true, forall_eq'] at h0
    rw [List.foldl_cons, h0, foldl_same (x := x) (y := []) fun i => by simpa using h (i + 1)]
  | a :: x, b :: y, h, z => by
    have h0 := h 0
    simp only [List.getElem?_cons_zero, Option.some.injEq, forall_eq'] at h0
    have h1 : ∀ z, x.foldl f z = y.foldl f z := foldl_same fun i => by simpa using h (i + 1)
    rw [List.foldl_cons, List.foldl_cons, h1]
    rcases h0 with rfl | ⟨ha, hb⟩
    · rfl
    · rw [ha, hb]
/-- Views that have their images' sizes, or less. -/
structure Szd (I : List Im) (y : List Int) : Prop where
  ok : (vrc y).Ok
  sz : ∀ g, imf (nm5 1 y) I = some g → g.w = nm5 4 y ∧ g.h = nm5 5 y
theorem pto_far {l : List Rc} {I : List Im} {u v : Int} {y : List Int} (s : Szd I y) (h : has (vrc y) u v = false) (z : Int) : pto l I u v z y = z := by
  unfold pto
  cases e : imf (nm5 1 y) I with
  | none => rfl
  | some g =>
    obtain ⟨e1, e2⟩ := s.sz g e
    dsimp only
    rw [e1, e2, show (⟨nm5 2 y, nm5 3 y, nm5 4 y, nm5 5 y⟩ : Rc) = vrc y from rfl, h, Bool.false_and, Bool.and_false]
    rfl
/-- The part that has changed, painted anew, is the whole. -/
theorem rp_whole {W H : Nat} (hW : W ≤ 48) (hH : H ≤ 48) {back : Int} {m : List Rc} {x y : List (List Int)} {I : List Im} {L M : List Int} (hx : ∀ a ∈ x, Szd I a) (hy : ∀ a ∈ y, Szd I a) (hL : L.length = W * H) (hM : M.length = W * H) (hm : ∀ u v : Nat, u < W → v < H → inC m u v = true) : pnc W back (dfl (chl x y [])) y I (pnc W back m x I L) = pnc W back m y I M := by
  apply List.ext_getElem?
  intro i
  by_cases hi : i < W * H
  · obtain ⟨u, v, hu, hv, rfl⟩ := place_eq hi
    rw [pnc_part (pnc_length.trans hL) hM hu hv (hm u v hu hv)]
    cases h : inC (dfl (chl x y [])) u v with
    | true => rfl
    | false =>
      have e1 : L[v * W + u]? = some L[v * W + u] := List.getElem?_eq_getElem (by omega)
      have e2 : M[v * W + u]? = some M[v * W + u] := List.getElem?_eq_getElem (by omega)
      rw [if_neg (by decide), pnc_get hu, pnc_get hu, e1, e2, Option.map_some, Option.map_some, hm u v hu hv]
      refine congrArg some (foldl_same (fun i => ?_) back)
      by_cases e : x[i]? = y[i]?
      · exact .inl e
      · refine .inr ⟨fun a ha => ?_, fun b hb => ?_⟩
        · refine pto_far (hx a (List.mem_of_getElem? ha)) (Bool.eq_false_iff.2 fun hh => ?_)
          rw [inC_dfl (chl_mem.2 ⟨i, chp_mem.2 ⟨e, .inl ⟨a, ha, rfl⟩⟩⟩) (hx a (List.mem_of_getElem? ha)).ok (by omega) (by omega) hh] at h
          cases h
        · refine pto_far (hy b (List.mem_of_getElem? hb)) (Bool.eq_false_iff.2 fun hh => ?_)
          rw [inC_dfl (chl_mem.2 ⟨i, chp_mem.2 ⟨e, .inr ⟨b, hb, rfl⟩⟩⟩) (hy b (List.mem_of_getElem? hb)).ok (by omega) (by omega) hh] at h
          cases h
  · rw [List.getElem?_eq_none (by rw [pnc_length, pnc_length]; omega), List.getElem?_eq_none (by rw [pnc_length]; omega)]

/-- Where nothing but the points of a view's image within its damage is another one, the part that has changed is the whole. -/
theorem rp_dirty {W H : Nat} (hW : W ≤ 48) (hH : H ≤ 48) {back : Int} {m : List Rc} {y : List Int} {r : Rc} {I J : List Im} {L M : List Int} (hk : Ck (vrc y)) (sI : ∀ g, imf (nm5 1 y) I = some g → g.w = nm5 4 y ∧ g.h = nm5 5 y) (sJ : ∀ g, imf (nm5 1 y) J = some g → g.w = nm5 4 y ∧ g.h = nm5 5 y)
    (hs : (imf (nm5 1 y) I).isSome = (imf (nm5 1 y) J).isSome)
    (hp : ∀ g g' u v, imf (nm5 1 y) I = some g → imf (nm5 1 y) J = some g' → has (vrc y) u v = true → has (bnd r) (u - nm5 2 y) (v - nm5 3 y) = false → g.l[kk (nm5 2 y) (nm5 3 y) (nm5 4 y) u v]? = g'.l[kk (nm5 2 y) (nm5 3 y) (nm5 4 y) u v]?)
    (hL : L.length = W * H) (hM : M.length = W * H) (hm : ∀ u v : Nat, u < W → v < H → inC m u v = true) : pnc W back (dfl [spt y r]) [y] J (pnc W back m [y] I L) = pnc W back m [y] J M := by
  apply List.ext_getElem?
  intro i
  by_cases hi : i < W * H
  · obtain ⟨u, v, hu, hv, rfl⟩ := place_eq hi
    rw [pnc_part (pnc_length.trans hL) hM hu hv (hm u v hu hv)]
    cases h : inC (dfl [spt y r]) u v with
    | true => rfl
    | false =>
      have e1 : L[v * W + u]? = some L[v * W + u] := List.getElem?_eq_getElem (by omega)
      have e2 : M[v * W + u]? = some M[v * W + u] := List.getElem?_eq_getElem (by omega)
      rw [if_neg (by decide), pnc_get hu, pnc_get hu, e1, e2, Option.map_some, Option.map_some, hm u v hu hv]
      refine congrArg some ?_
      show pto m I u v back y = pto m J u v back y
      cases hh : has (vrc y) u v with
      | false =>
        have far : ∀ K : List Im, (∀ g, imf (nm5 1 y) K = some g → g.w = nm5 4 y ∧ g.h = nm5 5 y) → pto m K u v back y = back := fun K sK => pto_far ⟨hk.ok, sK⟩ hh back
        rw [far I sI, far J sJ]
      | true =>
        have hn : has (bnd r) (u - nm5 2 y) (v - nm5 3 y) = false := Bool.eq_false_iff.2 fun hb => by
          rw [inC_dfl (List.mem_singleton.2 rfl) (spt_ok y r) (by omega) (by omega) (by rw [spt_has hk, hb, hh]; rfl)] at h
          cases h
        unfold pto
        cases eI : imf (nm5 1 y) I with
        | none =>
          rw [eI] at hs
          cases eJ : imf (nm5 1 y) J with
          | none => rfl
          | some g' => rw [eJ] at hs; cases hs
        | some g =>
          rw [eI] at hs
          cases eJ : imf (nm5 1 y) J with
          | none => rw [eJ] at hs; cases hs
          | some g' =>
            obtain ⟨a1, a2⟩ := sI g eI
            obtain ⟨b1, b2⟩ := sJ g' eJ
            dsimp only
            rw [a1, a2, b1, b2]
            unfold gD
            rw [hp g g' u v eI eJ hh hn]
  · rw [List.getElem?_eq_none (by rw [pnc_length, pnc_length]; omega), List.getElem?_eq_none (by rw [pnc_length]; omega)]
/-- The place of a point in six by five. -/
theorem kk_six {x y u v : Int} (hx : x ≤ u ∧ u < x + 6) (hy : y ≤ v ∧ v < y + 5) : kk x y 6 u v < 30 ∧ ((kk x y 6 u v % 6 : Nat) : Int) = u - x ∧ ((kk x y 6 u v / 6 : Nat) : Int) = v - y := by
  rw [kk]
  omega
end Go.Proofs.YtlkodgmnhphfcaaGreatDoor

/- Two of the program's canvases beside one another. -/
namespace Go.Proofs.YtlkodgmnhphfcaaGreatDoor
open Go Go.RowKit

variable {w x y : World} {p b q d W H : Nat} {L M : List Int}
/-- One canvas at p (L), another at q (M), both made since w. -/
structure Duo (w x : World) (p b q d W H : Nat) (L M : List Int) : Prop where
  cv : Cv 63 x p b W H L
  dv : Cv 63 x q d W H M
  qb : q ≠ b
  db : d ≠ b
  pd : p ≠ d
  lob : w.heap.size ≤ b
  lod : w.heap.size ≤ d
  bel : Below w.heap.size w x
theorem Duo.on (h : Duo w x p b q d W H L M) (hb : Below x.heap.size x y) : Duo w y p b q d W H L M := ⟨h.cv.on hb, h.dv.on hb, h.qb, h.db, h.pd, h.lob, h.lod, Below.on h.bel hb⟩
/-- The first one is turned. -/
theorem Duo.one (h : Duo w x p b q d W H L M) (hk : Kp [b] x y) {L' : List Int} (hc : Cv 63 y p b W H L') : Duo w y p b q d W H L' M :=
  ⟨hc, h.dv.kept hk (by simpa using h.qb) (by simpa using h.db), h.qb, h.db, h.pd, h.lob, h.lod, bel_kp h.bel hk h.bel.size (fun k hk => by
    simp only [List.mem_cons, List.not_mem_nil, or_false] at hk
    rw [hk]
    exact h.lob)⟩
/-- The second one is turned. -/
theorem Duo.two (h : Duo w x p b q d W H L M) (hk : Kp [d] x y) {M' : List Int} (hc : Cv 63 y q d W H M') : Duo w y p b q d W H L M' :=
  ⟨h.cv.kept hk (by simpa using h.pd) (by simpa using fun e => h.db e.symm), hc, h.qb, h.db, h.pd, h.lob, h.lod, bel_kp h.bel hk h.bel.size (fun k hk => by
    simp only [List.mem_cons, List.not_mem_nil, or_false] at hk
    rw [hk]
    exact h.lod)⟩
/-- Points of a part. -/
theorem atv_part {W H : Nat} (hW : 1 ≤ W ∧ W ≤ 48) (hH : 1 ≤ H ∧ H ≤ 48) {back : Int} {l : List Rc} {V : List (List Int)} {I : List Im} {L : List Int} (hL : L.length = W * H) {u v : Nat} (hu : u < W) (hv : v < H) :
    atv W H (pnc W back l V I L) u v = if inC l u v = true then atv W H (pnc W back [ara W H] V I L) u v else atv W H L u v := by
  have hi := place_lt hu hv
  have h := pnc_part (back := back) (l := l) (m := [ara W H]) (V := V) (I := I) hL hL hu hv (inC_ara hW hH hu hv)
  have e1 : L[v * W + u]? = some L[v * W + u] := List.getElem?_eq_getElem (by omega)
  have hml : v * W + u < (pnc W back [ara W H] V I L).length := by rw [pnc_length]; omega
  have e2 : (pnc W back [ara W H] V I L)[v * W + u]? = some (pnc W back [ara W H] V I L)[v * W + u] := List.getElem?_eq_getElem hml
  cases hq : inC l u v with
  | true =>
    rw [hq, if_pos rfl] at h
    rw [if_pos rfl, atv_at hu hv (h.trans e2), atv_at hu hv e2]
  | false =>
    rw [hq, if_neg (by decide)] at h
    rw [if_neg (by decide), atv_at hu hv (h.trans e1), atv_at hu hv e1]
end Go.Proofs.YtlkodgmnhphfcaaGreatDoor

/- Literals of one; what law 23's awake answers. -/
namespace Go.Proofs.YtlkodgmnhphfcaaGreatDoor
open Go Go.RowKit

variable {w U : World} {p q T : Nat}

theorem rdm_one {z0 z1 z2 z3 z4 z5 : Int} (h : Bk U p T #[.int .i64 z0, .int .i64 z1, .int .i64 z2, .int .i64 z3, .int .i64 z4, .int .i64 z5]) : RdM 6 U (some ⟨p, 0, none⟩) 1 1 [[z0, z1, z2, z3, z4, z5]] := by
  refine ⟨rfl, Nat.le_refl _, by decide, (fun h => by cases h), fun _ => ⟨p, 0, rfl, h.lt, fun j y hj i z hz => ?_⟩, fun y hy => ?_⟩
  · cases j with
    | succ j => simp at hj
    | zero =>
      simp only [List.getElem?_cons_zero, Option.some.injEq] at hj
      subst hj
      rw [Nat.zero_mul, Nat.zero_add, Nat.zero_add, h.cell]
      match i, hz with
      | 0, hz => cases hz; rfl
      | 1, hz => cases hz; rfl
      | 2, hz => cases hz; rfl
      | 3, hz => cases hz; rfl
      | 4, hz => cases hz; rfl
      | 5, hz => cases hz; rfl
      | i + 6, hz => simp at hz
  · rw [List.mem_singleton.1 hy]
    rfl
theorem rdw_one {z : Int} (h : Bk U p T #[.int .u32 z]) (hz : Col z) : RdI .u32 U (some ⟨p, 0, none⟩) 1 1 [z] :=
  ⟨rfl, Nat.le_refl _, by decide, (fun h => by cases h), fun x hx j hj => by
    cases hx
    obtain rfl : j = 0 := by omega
    rw [Go.WideShapes.add_plain, Nat.zero_add, h.cell]
    rfl, fun y hy => by
    rw [List.mem_singleton.1 hy]
    exact wf_col hz⟩
theorem rdg_one {g : Gv} (h : Bk U p T (gvv g)) (hg : GOk U g) : RdG U (some ⟨p, 0, none⟩) 1 1 [g] :=
  ⟨rfl, Nat.le_refl _, by decide, (fun h => by cases h), fun _ => ⟨p, 0, rfl, h.lt, fun j x hj i v hv => by
    cases j with
    | succ j => simp at hj
    | zero =>
      simp only [List.getElem?_cons_zero, Option.some.injEq] at hj
      subst hj
      rw [Nat.zero_mul, Nat.zero_add, Nat.zero_add, h.cell]
      exact hv⟩, fun x hx => by
    rw [List.mem_singleton.1 hx]
    exact hg⟩

theorem infoV23 : (Tryz.prog.info? 65).map (fun i => (i.zero, i.size, i.bytes)) = some (some (.agg #[.int .i64 0, .int .i64 0, .int .i64 0, .int .i64 0, .int .i64 0, .int .i64 0]), 6, 48) := by kernel_rfl

end Go.Proofs.YtlkodgmnhphfcaaGreatDoor

/- Repaint: the law's sized: views that have their images' sizes. Written by repaint/mk_rpm.py. -/
namespace Go.Proofs.YtlkodgmnhphfcaaGreatDoor
open Go Go.RowKit

theorem OwM.kpo {m e : Nat} {w u u' : World} {v : Value} {l : List (List Int)} (h : OwM m e w u v l) {X : List Nat} (hk : Kp X u u') (hX : ∀ k ∈ X, w.heap.size ≤ k) (hn : ∀ g, v.ownBlock = some g → g ∉ X) : OwM m e w u' v l :=
  ⟨hk.row h.own hn, bel_kp h.bel hk h.bel.size hX, h.size⟩
/-- A view with its image's size, near. -/
def szv (y : List Int) (g : Gv) : List Int := [nm5 0 y, nm5 1 y, (plc (nm5 2 y) 40 : Nat) - 20, (plc (nm5 3 y) 40 : Nat) - 20, g.w, g.h]
def szg (g : Gv) : Prop := 1 ≤ g.w ∧ 1 ≤ g.h ∧ g.w ≤ 100 ∧ g.h ≤ 100
theorem szv_ok {y : List Int} {g : Gv} {gs : List Gv} (hg : gf (nm5 1 y) gs = some g) (h : szg g) (h0 : I64 (nm5 0 y)) (h1 : I64 (nm5 1 y)) : Szd (gs.map gcl) (szv y g) ∧ ∀ z ∈ szv y g, I64 z := by
  have p1 := plc_lt (nm5 2 y) 40 (by omega)
  have p2 := plc_lt (nm5 3 y) 40 (by omega)
  obtain ⟨s1, s2, s3, s4⟩ := h
  refine ⟨⟨⟨?_, ?_, ?_, ?_⟩, fun x hx => ?_⟩, fun z hz => ?_⟩
  · show _ ≤ ((plc (nm5 2 y) 40 : Nat) : Int) - 20 ∧ ((plc (nm5 2 y) 40 : Nat) : Int) - 20 ≤ _
    omega
  · show _ ≤ ((plc (nm5 3 y) 40 : Nat) : Int) - 20 ∧ ((plc (nm5 3 y) 40 : Nat) : Int) - 20 ≤ _
    omega
  · show _ ≤ g.w ∧ g.w ≤ _
    omega
  · show _ ≤ g.h ∧ g.h ≤ _
    omega
  · rw [show nm5 1 (szv y g) = nm5 1 y from rfl, gf_imf, hg] at hx
    obtain rfl : gcl g = x := by simpa using hx
    exact ⟨rfl, rfl⟩
  · simp only [szv, List.mem_cons, List.not_mem_nil, or_false] at hz
    rcases hz with rfl | rfl | rfl | rfl | rfl | rfl
    · exact h0
    · exact h1
    · unfold I64; omega
    · unfold I64; omega
    · unfold I64; omega
    · unfold I64; omega
/-- What sized answers. -/
def SzR (w : World) (n : Nat) (I : List Im) (e : Ending) (w' : World) : Prop := ∃ a k c V, e = .returned (.slice a k c) ∧ RdM 6 w' a k c V ∧ k ≤ n ∧ (∀ y ∈ V, Szd I y ∧ ∀ z ∈ y, I64 z) ∧ (∀ x, a = some x → w.heap.size ≤ x.block) ∧ Below w.heap.size w w'

set_option maxRecDepth 100000 in
set_option maxHeartbeats 4000000 in
theorem qsized_any (a : Option Addr) (n c : Nat) (l : List (List Int)) (a' : Option Addr) (n' c' : Nat) (gs : List Gv) (w : World) (h : RdM 6 w a n c l) (hv : ∀ y ∈ l, ∀ z ∈ y, I64 z) (hg : RdG w a' n' c' gs) (hn : n ≤ 1000000) :
    Calls Tryz.prog 21 #[.slice a n c, .slice a' n' c'] w (SzR w n (gs.map gcl)) := by
  obtain ⟨i0, hi, hz0, hz1, hz2⟩ := infoMP infoV23
  have HR := hid h
  have HG := hid hg
  have HVI := hid hv
  have hs := h.small
  have hs' := hg.small
  obtain ⟨I, hI⟩ : ∃ I, gs.map gcl = I := ⟨_, rfl⟩
  have HIM := hid hI
  rw [hI]
  clear h hg hv hI
  go_enter Tryz.func21, Tryz.ntmps21
  go_wp2
  go_loopw [5, 6] (fun v i wr => ∃ (j : Nat) (V : List (List Int)), i = .int .i64 j ∧ j ≤ n ∧ OwM 6 65 w wr v V ∧ V.length ≤ j ∧ ∀ y ∈ V, Szd I y ∧ ∀ z ∈ y, I64 z) (fun _ i _ => n - (numOf i).toNat)
  case atStart => exact ⟨0, [], rfl, by omega, OwM.nil _ _ _, by simp, by simp⟩
  case round =>
    obtain ⟨j, V, rfl, hj, hO, hVL, hVS⟩ := hrel
    have HO := hid hO
    have HVS := hid hVS
    obtain ⟨av, cv, rfl, _⟩ := hO.rd
    clear hO hVS
    by_cases hgo : j < n
    · have e1 : decide ((j : Int) < n) = true := decide_eq_true (by omega)
      have e2 : (j : Int) < n := by omega
      obtain ⟨b, off, z0, z1, z2, z3, z4, z5, rfl, hb, hy, d0, d1, d2, d3, d4, d5⟩ := (HR.out.on HO.out.bel).el6 hgo
      have i0' : I64 z0 := HVI.out _ (List.mem_of_getElem? hy) z0 (by simp)
      have i1' : I64 z1 := HVI.out _ (List.mem_of_getElem? hy) z1 (by simp)
      have i2' : I64 z2 := HVI.out _ (List.mem_of_getElem? hy) z2 (by simp)
      have i3' : I64 z3 := HVI.out _ (List.mem_of_getElem? hy) z3 (by simp)
      have hA := bel_new wr (.cells #[.int .i64 z0, .int .i64 z1, .int .i64 z2, .int .i64 z3, .int .i64 z4, .int .i64 z5] 65)
      have HA := hid hA
      have HV := hid (bk_new wr #[.int .i64 z0, .int .i64 z1, .int .i64 z2, .int .i64 z3, .int .i64 z4, .int .i64 z5] 65)
      have HG4 := hid ((HG.out.on HO.out.bel).on hA)
      have CF := hid (rpfind_any a' n' c' gs z1 _ HG4.out)
      clear hA hy hb
      cases hgf : gf z1 gs with
      | none =>
        rw [hgf] at CF
        rw [show fdv none = .tuple #[.agg #[.int .i64 0, .int .i64 0, .int .i64 0, .slice none 0 0], .bool false] from rfl] at CF
        clear hgf
        go_wp2_with fail
        refine CF.out.mono ?_
        rintro e w5 ⟨rfl, hb5⟩
        have hB5 := Below.on (Below.on HA.out hb5) (bel_new w5 (.cells #[.int .i64 0, .int .i64 0, .int .i64 0, .slice none 0 0] 57))
        have HO5 := hid (HO.out.on hB5)
        clear hb5 hB5 HO CF HV HA
        go_wp2
        go_roundw
        case rel => exact ⟨j + 1, V, by go_num, by omega, HO5.out, by omega, HVS.out⟩
        case measure => simp [numOf]; omega
      | some g =>
        rw [hgf] at CF
        have HGF := hid hgf
        obtain ⟨g0, g1, g2, ga, gn, gc, gl⟩ := g
        rw [show fdv (some ⟨g0, g1, g2, ga, gn, gc, gl⟩) = .tuple #[.agg #[.int .i64 g0, .int .i64 g1, .int .i64 g2, .slice ga gn gc], .bool true] from rfl] at CF
        have HYES : Hid (1 ≤ g1 → 1 ≤ g2 → g1 ≤ 100 → g2 ≤ 100 → ∀ y ∈ V ++ [[z0, z1, (plc z2 40 : Nat) - 20, (plc z3 40 : Nat) - 20, g1, g2]], Szd I y ∧ ∀ z ∈ y, I64 z) := fun h1 h2 h3 h4 y hy => by
          rcases List.mem_append.1 hy with hy | hy
          · exact HVS.out y hy
          · obtain rfl := List.mem_singleton.1 hy
            rw [← HIM.out]
            exact szv_ok (y := [z0, z1, z2, z3, z4, z5]) (g := ⟨g0, g1, g2, ga, gn, gc, gl⟩) HGF.out ⟨h1, h2, h3, h4⟩ i0' i1'
        clear hgf
        go_wp2_with fail
        refine CF.out.mono ?_
        rintro e w5 ⟨rfl, hb5⟩
        have hX := bel_new w5 (.cells #[.int .i64 g0, .int .i64 g1, .int .i64 g2, .slice ga gn gc] 57)
        have hB5 := Below.on (Below.on HA.out hb5) hX
        have HI5 := hid (bk_new w5 #[.int .i64 g0, .int .i64 g1, .int .i64 g2, .slice ga gn gc] 57)
        have HV5 := hid ((HV.out.on hb5).on hX)
        have HO5 := hid (HO.out.on hB5)
        have hq7 : wr.heap.size < w5.heap.size := (HV.out.on hb5).lt
        have hown : ∀ g, (Value.slice av V.length cv).ownBlock = some g → g < wr.heap.size := fun g hg => (HO.out.own.lt g hg).2
        have hbase : w.heap.size ≤ wr.heap.size := HO.out.bel.size
        have x1 := HI5.out.cell 1
        have x2 := HI5.out.cell 2
        clear hb5 hX hB5 HO CF HV HA
        have NO : ∀ {P : Prop}, P → P := fun h => h
        by_cases k1 : g1 < 1
        · have t1 : decide (g1 < 1) = true := decide_eq_true k1
          go_wp2
          go_roundw
          case rel => exact ⟨j + 1, V, by go_num, by omega, HO5.out, by omega, HVS.out⟩
          case measure => simp [numOf]; omega
        have t1 : decide (g1 < 1) = false := decide_eq_false k1
        by_cases k2 : g2 < 1
        · have t2 : decide (g2 < 1) = true := decide_eq_true k2
          go_wp2
          go_roundw
          case rel => exact ⟨j + 1, V, by go_num, by omega, HO5.out, by omega, HVS.out⟩
          case measure => simp [numOf]; omega
        have t2 : decide (g2 < 1) = false := decide_eq_false k2
        by_cases k3 : 100 < g1
        · have t3 : decide (100 < g1) = true := decide_eq_true k3
          go_wp2
          go_roundw
          case rel => exact ⟨j + 1, V, by go_num, by omega, HO5.out, by omega, HVS.out⟩
          case measure => simp [numOf]; omega
        have t3 : decide (100 < g1) = false := decide_eq_false k3
        by_cases k4 : 100 < g2
        · have t4 : decide (100 < g2) = true := decide_eq_true k4
          go_wp2
          go_roundw
          case rel => exact ⟨j + 1, V, by go_num, by omega, HO5.out, by omega, HVS.out⟩
          case measure => simp [numOf]; omega
        have t4 : decide (100 < g2) = false := decide_eq_false k4
        have HYS := hid (HYES.out (by omega) (by omega) (by omega) (by omega))
        have HP2 : Hid (∀ u, Calls Tryz.prog 39 #[.int .i64 z2, .int .i64 40] u fun e w' => e = .returned (.int .i64 (plc z2 40 : Nat)) ∧ w' = u) := fun u => place_any z2 40 i2' (by omega) (by omega) u
        have HP3 : Hid (∀ u, Calls Tryz.prog 39 #[.int .i64 z3, .int .i64 40] u fun e w' => e = .returned (.int .i64 (plc z3 40 : Nat)) ∧ w' = u) := fun u => place_any z3 40 i3' (by omega) (by omega) u
        have p2 := plc_lt z2 40 (by omega)
        have p3 := plc_lt z3 40 (by omega)
        generalize plc z2 40 = m2 at HP2 p2 HYS
        generalize plc z3 40 = m3 at HP3 p3 HYS
        obtain ⟨s2, hs2⟩ : ∃ s : Int, (m2 : Int) - 20 = s := ⟨_, rfl⟩
        obtain ⟨s3, hs3⟩ : ∃ s : Int, (m3 : Int) - 20 = s := ⟨_, rfl⟩
        have u2 : IntKind.i64.wrap s2 = s2 := by rw [IntKind.wrap_i64]; omega
        have u3 : IntKind.i64.wrap s3 = s3 := by rw [IntKind.wrap_i64]; omega
        rw [hs2, hs3] at HYS
        clear HYES NO
        go_upto_region 8 with fail
        clear x1 x2
        generalize w5.alloc (.cells #[.int .i64 g0, .int .i64 g1, .int .i64 g2, .slice ga gn gc] 57) = U at HI5 HV5 HO5 ⊢
        obtain ⟨q7, hq7e⟩ : ∃ q, wr.heap.size = q := ⟨_, rfl⟩
        obtain ⟨q8, hq8e⟩ : ∃ q, w5.heap.size = q := ⟨_, rfl⟩
        rw [hq7e] at HV5 hown hbase hq7 ⊢
        rw [hq8e] at HI5 hq7 ⊢
        clear hq7e hq8e
        have HKP : Hid (Kp [q7] U U.drew) := kp_of_below (Below.refl _ _).drew _
        have HV6 := hid (HV5.out.on (Below.refl _ _).drew)
        clear HV5
        refine wp_region_held_drew (S := fun x => Bk x q8 57 #[.int .i64 g0, .int .i64 g1, .int .i64 g2, .slice ga gn gc]) (by kernel_rfl) ?hh (fun hHeld => ?_)
        case hh => exact (HI5.out.on (Below.refl _ _).drew)
        generalize World.drew _ = W0 at hHeld HV6 HKP ⊢
        try dsimp only at hHeld
        clear HI5
        refine wpAnyH_take (i := 0) (v := ?_) rfl (by kernel_rfl) (by kernel_rfl) (by kernel_rfl) (fun _ _ _ h => h) (Or.inl ⟨by kernel_rfl, ?hy0⟩) (by assumption) ?_
        case hy0 => (intro wI hSw; (try dsimp only at hSw); have y1 := hSw.cell 1; have y2 := hSw.cell 2; go_simp; try with_reducible rfl)
        try simp only [Act.put, List.getElem_toArray, List.getElem_cons_zero, List.setIfInBounds_toArray, List.set_cons_zero, List.set_cons_succ]
        refine wpAnyH_take (i := 1) (v := ?_) rfl (by kernel_rfl) (by kernel_rfl) (by kernel_rfl) (fun _ _ _ h => h) (Or.inl ⟨by kernel_rfl, ?hy1⟩) (by assumption) ?_
        case hy1 => (intro wI hSw; (try dsimp only at hSw); have y1 := hSw.cell 1; have y2 := hSw.cell 2; go_simp; try with_reducible rfl)
        try simp only [Act.put, List.getElem_toArray, List.getElem_cons_zero, List.getElem_cons_succ, List.setIfInBounds_toArray, List.set_cons_zero, List.set_cons_succ]
        refine wpAnyH_take (i := 2) (v := ?_) rfl (by kernel_rfl) (by kernel_rfl) (by kernel_rfl) (fun _ _ _ h => h) (Or.inl ⟨by kernel_rfl, ?hy2⟩) (by assumption) ?_
        case hy2 => (intro wI hSw; (try dsimp only at hSw); have y1 := hSw.cell 1; have y2 := hSw.cell 2; go_simp; try with_reducible rfl)
        try simp only [Act.put, List.getElem_toArray, List.getElem_cons_zero, List.getElem_cons_succ, List.setIfInBounds_toArray, List.set_cons_zero, List.set_cons_succ]
        refine wpAnyH_take (i := 3) (v := ?_) rfl (by kernel_rfl) (by kernel_rfl) (by kernel_rfl) (fun _ _ _ h => h) (Or.inl ⟨by kernel_rfl, ?hy3⟩) (by assumption) ?_
        case hy3 => (intro wI hSw; (try dsimp only at hSw); have y1 := hSw.cell 1; have y2 := hSw.cell 2; go_simp; try with_reducible rfl)
        try simp only [Act.put, List.getElem_toArray, List.getElem_cons_zero, List.getElem_cons_succ, List.setIfInBounds_toArray, List.set_cons_zero, List.set_cons_succ]
        refine wpAnyH_take (i := 4) (v := ?_) rfl (by kernel_rfl) (by kernel_rfl) (by kernel_rfl) (fun _ _ _ h => h) (Or.inl ⟨by kernel_rfl, ?hy4⟩) (by assumption) ?_
        case hy4 => (intro wI hSw; (try dsimp only at hSw); have y1 := hSw.cell 1; have y2 := hSw.cell 2; go_simp; try with_reducible rfl)
        try simp only [Act.put, List.getElem_toArray, List.getElem_cons_zero, List.getElem_cons_succ, List.setIfInBounds_toArray, List.set_cons_zero, List.set_cons_succ]
        refine wpAnyH_ready (rs := [5]) (by kernel_rfl) (by simp) ?_
        refine AllReadyH.cons rfl (fun K hK => ?_) AllReadyH.nil
        have c4 := HV6.out.cell 4
        have f4 := HV6.out.fz 4
        go_simp
        have HV7 : Hid (Bk (W0.setCell ⟨q7, 4, none⟩ (.int .i64 g1)) q7 65 #[.int .i64 z0, .int .i64 z1, .int .i64 z2, .int .i64 z3, .int .i64 g1, .int .i64 z5]) := HV6.out.set 4 _
        have HK7 := hid (HKP.out.set ⟨q7, 4, none⟩ (by simp) (.int .i64 g1))
        have hI7 := hHeld.other (by omega) 4 (.int .i64 g1) (q := q7)
        refine hK.out _ _ hI7 (fun _ => ?_)
        clear hK K hHeld c4 f4 HV6 HKP
        have hHeld := hI7
        clear hI7
        generalize W0.setCell ⟨q7, 4, none⟩ (.int .i64 g1) = W5 at HV7 HK7 hHeld ⊢
        try simp only [Act.put, List.getElem_toArray, List.getElem_cons_zero, List.getElem_cons_succ, List.setIfInBounds_toArray, List.set_cons_zero, List.set_cons_succ]
        refine wpAnyH_take (i := 6) (v := ?_) rfl (by kernel_rfl) (by kernel_rfl) (by kernel_rfl) (fun _ _ _ h => h) (Or.inl ⟨by kernel_rfl, ?hy6⟩) (by assumption) ?_
        case hy6 => (intro wI hSw; (try dsimp only at hSw); have y1 := hSw.cell 1; have y2 := hSw.cell 2; go_simp; try with_reducible rfl)
        try simp only [Act.put, List.getElem_toArray, List.getElem_cons_zero, List.getElem_cons_succ, List.setIfInBounds_toArray, List.set_cons_zero, List.set_cons_succ]
        refine wpAnyH_ready (rs := [7]) (by kernel_rfl) (by simp) ?_
        refine AllReadyH.cons rfl (fun K hK => ?_) AllReadyH.nil
        have c5 := HV7.out.cell 5
        have f5 := HV7.out.fz 5
        go_simp
        have HV8 : Hid (Bk (W5.setCell ⟨q7, 5, none⟩ (.int .i64 g2)) q7 65 #[.int .i64 z0, .int .i64 z1, .int .i64 z2, .int .i64 z3, .int .i64 g1, .int .i64 g2]) := HV7.out.set 5 _
        have HK8 := hid (HK7.out.set ⟨q7, 5, none⟩ (by simp) (.int .i64 g2))
        have hI8 := hHeld.other (by omega) 5 (.int .i64 g2) (q := q7)
        refine hK.out _ _ hI8 (fun _ => ?_)
        clear hK K hHeld c5 f5 HV7 HK7
        have hHeld := hI8
        clear hI8
        generalize W5.setCell ⟨q7, 5, none⟩ (.int .i64 g2) = W7 at HV8 HK8 hHeld ⊢
        try simp only [Act.put, List.getElem_toArray, List.getElem_cons_zero, List.getElem_cons_succ, List.setIfInBounds_toArray, List.set_cons_zero, List.set_cons_succ]
        refine wpAnyH_done (by kernel_rfl) ?_ _
        clear hHeld
        go_upto_region 9 with fail
        have HKD := hid (HK8.out.trans (kp_of_below (Below.refl _ _).drew []) (by simp))
        have HVD := hid (HV8.out.on (Below.refl _ _).drew)
        clear HV8 HK8
        refine wp_region_gate_drew (g := 9) (S := fun x => Bk x q7 65 #[.int .i64 z0, .int .i64 z1, .int .i64 z2, .int .i64 z3, .int .i64 g1, .int .i64 g2]) (by kernel_rfl) ?hh (fun hHeld => ?_)
        case hh => exact (HVD.out)
        generalize World.drew _ = W90 at hHeld HKD HVD ⊢
        try dsimp only at hHeld
        clear HVD
        refine wpAnyG_take (i := 0) (v := ?_) rfl (by kernel_rfl) (by kernel_rfl) (by kernel_rfl) (by kernel_rfl) (fun _ _ _ h => h) (Or.inl ⟨by kernel_rfl, ?hy0⟩) (by assumption) ?_
        case hy0 => (intro wI hSw; (try dsimp only at hSw); have y2 := hSw.cell 2; have y3 := hSw.cell 3; go_simp; try with_reducible rfl)
        try simp only [Act.put, List.getElem_toArray, List.getElem_cons_zero, List.setIfInBounds_toArray, List.set_cons_zero, List.set_cons_succ]
        refine wpAnyG_take (i := 1) (v := ?_) rfl (by kernel_rfl) (by kernel_rfl) (by kernel_rfl) (by kernel_rfl) (fun _ _ _ h => h) (Or.inl ⟨by kernel_rfl, ?hy1⟩) (by assumption) ?_
        case hy1 => (intro wI hSw; (try dsimp only at hSw); have y2 := hSw.cell 2; have y3 := hSw.cell 3; go_simp; try with_reducible rfl)
        try simp only [Act.put, List.getElem_toArray, List.getElem_cons_zero, List.getElem_cons_succ, List.setIfInBounds_toArray, List.set_cons_zero, List.set_cons_succ]
        refine wpAnyG_take (i := 4) (v := ?_) rfl (by kernel_rfl) (by kernel_rfl) (by kernel_rfl) (by kernel_rfl) (fun _ _ _ h => h) (Or.inl ⟨by kernel_rfl, ?hy4⟩) (by assumption) ?_
        case hy4 => (intro wI hSw; (try dsimp only at hSw); have y2 := hSw.cell 2; have y3 := hSw.cell 3; go_simp; try with_reducible rfl)
        try simp only [Act.put, List.getElem_toArray, List.getElem_cons_zero, List.getElem_cons_succ, List.setIfInBounds_toArray, List.set_cons_zero, List.set_cons_succ]
        refine wpAnyG_take (i := 5) (v := ?_) rfl (by kernel_rfl) (by kernel_rfl) (by kernel_rfl) (by kernel_rfl) (fun _ _ _ h => h) (Or.inl ⟨by kernel_rfl, ?hy5⟩) (by assumption) ?_
        case hy5 => (intro wI hSw; (try dsimp only at hSw); have y2 := hSw.cell 2; have y3 := hSw.cell 3; go_simp; try with_reducible rfl)
        try simp only [Act.put, List.getElem_toArray, List.getElem_cons_zero, List.getElem_cons_succ, List.setIfInBounds_toArray, List.set_cons_zero, List.set_cons_succ]
        refine wpAnyG_ready (rs := [2]) (by kernel_rfl) (by simp) ?_
        refine AllReadyG.cons rfl (fun K hK => ?_) AllReadyG.nil
        go_simp
        go_wp2_with fail
        refine (HP2.out _).mono ?_
        rintro e uu ⟨rfl, hu2⟩
        obtain rfl := hu2.symm
        refine hK.out _ _ hHeld (fun _ => ?_)
        clear hK K
        try simp only [Act.put, List.getElem_toArray, List.getElem_cons_zero, List.getElem_cons_succ, List.setIfInBounds_toArray, List.set_cons_zero, List.set_cons_succ]
        refine wpAnyG_take (i := 3) (v := ?_) rfl (by kernel_rfl) (by kernel_rfl) (by kernel_rfl) (by kernel_rfl) (fun _ _ _ h => h) (Or.inl ⟨by kernel_rfl, ?hy3⟩) (by assumption) ?_
        case hy3 => (intro wI hSw; (try dsimp only at hSw); have y2 := hSw.cell 2; have y3 := hSw.cell 3; go_simp; try with_reducible rfl)
        try simp only [Act.put, List.getElem_toArray, List.getElem_cons_zero, List.getElem_cons_succ, List.setIfInBounds_toArray, List.set_cons_zero, List.set_cons_succ]
        refine wpAnyG_take (i := 8) (v := ?_) rfl (by kernel_rfl) (by kernel_rfl) (by kernel_rfl) (by kernel_rfl) (fun _ _ _ h => h) (Or.inl ⟨by kernel_rfl, ?hy8⟩) (by assumption) ?_
        case hy8 => (intro wI hSw; (try dsimp only at hSw); have y2 := hSw.cell 2; have y3 := hSw.cell 3; go_simp; try with_reducible rfl)
        try simp only [Act.put, List.getElem_toArray, List.getElem_cons_zero, List.getElem_cons_succ, List.setIfInBounds_toArray, List.set_cons_zero, List.set_cons_succ]
        refine wpAnyG_ready (rs := [6]) (by kernel_rfl) (by simp) ?_
        refine AllReadyG.cons rfl (fun K hK => ?_) AllReadyG.nil
        go_simp
        go_wp2_with fail
        refine (HP3.out _).mono ?_
        rintro e uu ⟨rfl, hu2⟩
        obtain rfl := hu2.symm
        refine hK.out _ _ hHeld (fun _ => ?_)
        clear hK K
        try simp only [Act.put, List.getElem_toArray, List.getElem_cons_zero, List.getElem_cons_succ, List.setIfInBounds_toArray, List.set_cons_zero, List.set_cons_succ]
        refine wpAnyG_takeFree (i := 7) (v := ?_) rfl (by kernel_rfl) (by kernel_rfl) (by kernel_rfl) (by kernel_rfl) (fun _ _ _ h => h) (Or.inl ⟨by kernel_rfl, ?hy7⟩) (by assumption) ?_
        case hy7 => (intro wI _; go_simp; try with_reducible rfl)
        try simp only [Act.put, List.getElem_toArray, List.getElem_cons_zero, List.getElem_cons_succ, List.setIfInBounds_toArray, List.set_cons_zero, List.set_cons_succ]
        have hG := hHeld
        clear hHeld
        have hHeld : True := trivial
        refine wpAnyG_gateOp rfl (by kernel_rfl) (fun K hK => ?_)
        have c2 := hG.cell 2
        have f2 := hG.fz 2
        go_simp
        have HV9 : Hid (Bk (W90.setCell ⟨q7, 2, none⟩ (.int .i64 s2)) q7 65 #[.int .i64 z0, .int .i64 z1, .int .i64 s2, .int .i64 z3, .int .i64 g1, .int .i64 g2]) := hid (hG.set 2 (.int .i64 s2))
        have HK9 := hid (HKD.out.set ⟨q7, 2, none⟩ (by simp) (.int .i64 s2))
        refine hK.out _ _ trivial (fun _ => ?_)
        clear hK K c2 f2 hG HKD
        generalize W90.setCell ⟨q7, 2, none⟩ (.int .i64 s2) = W9 at HV9 HK9 ⊢
        try simp only [Act.put, List.getElem_toArray, List.getElem_cons_zero, List.getElem_cons_succ, List.setIfInBounds_toArray, List.set_cons_zero, List.set_cons_succ]
        refine wpAnyH_take (i := 10) (v := ?_) rfl (by kernel_rfl) (by kernel_rfl) (by kernel_rfl) (fun _ _ _ h => h) (Or.inl ⟨by kernel_rfl, ?hy10⟩) (by assumption) ?_
        case hy10 => (intro wI hSw; (try dsimp only at hSw); go_simp; try with_reducible rfl)
        try simp only [Act.put, List.getElem_toArray, List.getElem_cons_zero, List.getElem_cons_succ, List.setIfInBounds_toArray, List.set_cons_zero, List.set_cons_succ]
        refine wpAnyH_ready (rs := [11]) (by kernel_rfl) (by simp) ?_
        refine AllReadyH.cons rfl (fun K hK => ?_) AllReadyH.nil
        have c3 := HV9.out.cell 3
        have f3 := HV9.out.fz 3
        go_simp
        have HV10 : Hid (Bk (W9.setCell ⟨q7, 3, none⟩ (.int .i64 s3)) q7 65 #[.int .i64 z0, .int .i64 z1, .int .i64 s2, .int .i64 s3, .int .i64 g1, .int .i64 g2]) := hid (HV9.out.set 3 (.int .i64 s3))
        have HK10 := hid (HK9.out.set ⟨q7, 3, none⟩ (by simp) (.int .i64 s3))
        refine hK.out _ _ trivial (fun _ => ?_)
        clear hK K c3 f3 HV9 HK9
        generalize W9.setCell ⟨q7, 3, none⟩ (.int .i64 s3) = W11 at HV10 HK10 ⊢
        try simp only [Act.put, List.getElem_toArray, List.getElem_cons_zero, List.getElem_cons_succ, List.setIfInBounds_toArray, List.set_cons_zero, List.set_cons_succ]
        refine wpAnyH_done (by kernel_rfl) ?_ _
        clear hHeld
        generalize W11 = F at HV10 HK10 ⊢
        have HO11 := hid (HO5.out.kpo HK10.out (by simpa using hbase) (fun g hg => by have := hown g hg; simp only [List.mem_singleton]; omega))
        have v0 := HV10.out.cell 0
        have v1 := HV10.out.cell 1
        have v2 := HV10.out.cell 2
        have v3 := HV10.out.cell 3
        have v4 := HV10.out.cell 4
        have v5 := HV10.out.cell 5
        clear HV10 HK10 HO5
        have hbF := bel_new F (.cells #[.int .i64 z0, .int .i64 z1, .int .i64 s2, .int .i64 s3, .int .i64 g1, .int .i64 g2] 65)
        have HS12 := hid ((rdm_one (bk_new F #[.int .i64 z0, .int .i64 z1, .int .i64 s2, .int .i64 s3, .int .i64 g1, .int .i64 g2] 65)).src (P := Tryz.prog) (t := 23) (e := 65) Tryz.underlying23)
        have HO12 := hid (HO11.out.on hbF)
        clear hbF HO11
        go_wp2_with (at_builtin; refine wpList_append_own_src _ rfl (.tmp 65) (.tmp 67) 23 23 rfl w.heap.size 65 i0 (.agg #[.int .i64 0, .int .i64 0, .int .i64 0, .int .i64 0, .int .i64 0, .int .i64 0]) 6 48 Tryz.underlying23 hi hz0 hz1 hz2 rfl _ _ _ rfl HO12.out.own _ 1 _ rfl HS12.out (by simp only [maxLen]; omega) (fits48 (by omega) (by omega)) HO12.out.bel.size ?_; intro v13 w13 o13 g13; have HZ := hid (HO12.out.grown (k := [[z0, z1, s2, s3, g1, g2]]) (by simp) o13 g13); clear o13 g13)
        go_roundw
        case rel => exact ⟨j + 1, V ++ [[z0, z1, s2, s3, g1, g2]], by go_num, by omega, HZ.out, by rw [List.length_append, List.length_singleton]; omega, HYS.out⟩
        case measure => simp [numOf]; omega
    · have e1 : decide ((j : Int) < n) = false := decide_eq_false (by omega)
      obtain ⟨a9, c9, e9, hR9, hn9⟩ := HO.out.rd
      cases e9
      have HR9 := hid hR9
      have HN9 : Hid (∀ x, av = some x → w.heap.size ≤ x.block) := fun x hx => (hn9 x hx).1
      clear hR9 hn9
      go_wp2
      go_ret
      exact ⟨av, V.length, cv, V, rfl, HR9.out, by omega, HVS.out, HN9.out, HO.out.bel⟩
end Go.Proofs.YtlkodgmnhphfcaaGreatDoor
