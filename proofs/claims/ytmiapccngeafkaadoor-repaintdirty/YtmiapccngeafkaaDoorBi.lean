/- The document's make1. -/
import Derived.Test.YtmiapccngeafkaaDoorBh
import Derived.Test.YtmiapccngeafkaaDoorBe
import Derived.Test.YtmiapccngeafkaaDoorBg
import Derived.Deep.AppendSrc
import Derived.Test.YtmiapccngeafkaaDoorBa
import Derived.Deep.RegionHeldLaw
namespace Go.Proofs.YtmiapccngeafkaaDoor
open Go Go.RowKit

/-- The first k higher by d. -/
def gk (d : Int) (k : Nat) (l : List Rc) : List Rc := (l.take k).map (fun r => ⟨r.x, r.y, r.w, r.h + d⟩) ++ l.drop k
theorem gk_len (d : Int) (k : Nat) (l : List Rc) : (gk d k l).length = l.length := by
  rw [gk, List.length_append, List.length_map, ← List.length_append, List.take_append_drop]
theorem gk_at {d : Int} {k : Nat} {l : List Rc} {r : Rc} (h : l[k]? = some r) : (gk d k l)[k]? = some r := by
  have hj : k < l.length := (List.getElem?_eq_some_iff.1 h).1
  have hl : ((l.take k).map (fun r => (⟨r.x, r.y, r.w, r.h + d⟩ : Rc))).length = k := by simp; omega
  rw [gk, List.getElem?_append_right (by omega), hl, Nat.sub_self, List.getElem?_drop, Nat.add_zero]
  exact h
theorem gk_set {d : Int} {k : Nat} {l : List Rc} {r : Rc} (h : l[k]? = some r) : (gk d k l).set k ⟨r.x, r.y, r.w, r.h + d⟩ = gk d (k + 1) l := by
  have hj : k < l.length := (List.getElem?_eq_some_iff.1 h).1
  have hl : ((l.take k).map (fun r => (⟨r.x, r.y, r.w, r.h + d⟩ : Rc))).length = k := by simp; omega
  rw [gk, List.set_append_right _ _ (by omega), hl, Nat.sub_self, drop_at h, List.set_cons_zero, gk, List.take_add_one, h]
  simp
theorem gk_all (d : Int) (l : List Rc) : gk d l.length l = grow d l := by
  rw [gk, List.take_length, List.drop_length, List.append_nil]
  rfl
theorem rccs_setH {l : List Rc} {j : Nat} {r : Rc} (h : l[j]? = some r) (z : Int) : (rccs l).set (j * 4 + 3) (.int .i64 z) = rccs (l.set j ⟨r.x, r.y, r.w, z⟩) := by
  induction l generalizing j with
  | nil => simp at h
  | cons x l ih =>
    cases j with
    | zero =>
      simp only [List.getElem?_cons_zero, Option.some.injEq] at h
      subst h
      simp [rccs_cons]
    | succ j =>
      rw [List.getElem?_cons_succ] at h
      rw [List.set_cons_succ, rccs_cons, rccs_cons, ← ih h, show (j + 1) * 4 + 3 = j * 4 + 3 + 4 by omega]
      simp only [List.set_cons_succ]
theorem OwC.setH {w u : World} {g n c : Nat} {l : List Rc} {j : Nat} {r : Rc} (h : OwC w u (.slice (some ⟨g, 0, none⟩) n c) l) (hn : l.length = n) (hr : l[j]? = some r) (z : Int) : OwC w (u.setCell ⟨g, j * 4 + 3, none⟩ (.int .i64 z)) (.slice (some ⟨g, 0, none⟩) n c) (l.set j ⟨r.x, r.y, r.w, z⟩) := by
  have h1 := h.own
  rw [hn] at h1
  have hg := (h1.lt g rfl).1
  have h2 := (h1.stored (j * 4 + 3) (.int .i64 z)).1
  rw [rccs_setH hr] at h2
  exact ⟨by rw [List.length_set, hn]; exact h2, h.bel.setCell (p := ⟨g, _, none⟩) hg _⟩
theorem OwC.set {w u : World} {v : Value} {l : List Rc} (h : OwC w u v l) {g k : Nat} (hn : v.ownBlock ≠ some g) (hg : w.heap.size ≤ g) (x : Value) : OwC w (u.setCell ⟨g, k, none⟩ x) v l := ⟨ownsRow_set h.own ⟨g, k, none⟩ hn x, h.bel.setCell (p := ⟨g, k, none⟩) hg _⟩

/-- make1's state: what is put by, and the last band, apart from one another. -/
structure M1 (w u : World) (s9 s10 : Value) (L last : List Rc) : Prop where
  fst : OwC w u s9 L
  snd : OwC w u s10 last
  ne : ∀ k, s9.ownBlock = some k → s10.ownBlock ≠ some k
theorem M1.on {w u u' : World} {s9 s10 : Value} {L last : List Rc} (h : M1 w u s9 s10 L last) (hb : Below u.heap.size u u') : M1 w u' s9 s10 L last := ⟨h.fst.on hb, h.snd.on hb, h.ne⟩

end Go.Proofs.YtmiapccngeafkaaDoor

/- The document's Check, Make, Of; Rects, few, made. -/
namespace Go.Proofs.YtmiapccngeafkaaDoor
open Go Go.RowKit

theorem fH0 : fH 0 = or := rfl
theorem fH1 : fH 1 = sub := rfl
theorem fH2 : fH 2 = and := rfl
theorem eqr_rgn {l : List Rc} (hk : ∀ r ∈ l, Ck r) : eqr l (mk or l []) = rgn l := by
  rw [Bool.eq_iff_iff, eqr_iff, rgn_iff, ← mk_reg hk]
  exact ⟨fun h => h.symm, fun h => h.symm⟩




end Go.Proofs.YtmiapccngeafkaaDoor

/- few, made, awake. -/
namespace Go.Proofs.YtmiapccngeafkaaDoor
open Go Go.RowKit

/-- A list by its places. -/
def gl (l : List Rc) (j : Nat) : Rc := (l[j]?).getD rz



theorem ex_union : unn or [⟨0, 0, 2, 2⟩] [⟨2, 0, 2, 2⟩] = [⟨0, 0, 4, 2⟩] := by
  have k1 : Ck ⟨0, 0, 2, 2⟩ := ⟨by decide, by decide, by decide, by decide, by decide, by decide⟩
  have k2 : Ck ⟨2, 0, 2, 2⟩ := ⟨by decide, by decide, by decide, by decide, by decide, by decide⟩
  have k3 : Ck ⟨0, 0, 4, 2⟩ := ⟨by decide, by decide, by decide, by decide, by decide, by decide⟩
  rw [unn_reg (reg_one k1) (reg_one k2)]
  obtain ⟨h1, h2, _⟩ := mk_all (f := or) rfl (reg_one k1).ck (reg_one k2).ck
  refine reg_eq h1 (reg_one k3) fun x y => ?_
  rw [h2, Bool.eq_iff_iff, Bool.or_eq_true, pt_iff, pt_iff, pt_iff]
  simp only [List.mem_singleton, exists_eq_left, has_iff]
  omega
theorem ex_rgn : rgn [⟨0, 0, 4, 2⟩] = true := rgn_iff.2 (reg_one ⟨by decide, by decide, by decide, by decide, by decide, by decide⟩)

end Go.Proofs.YtmiapccngeafkaaDoor

/- The contracts of the program's few, added, Flat, Add, Clip, Move. -/
namespace Go.Proofs.YtmiapccngeafkaaDoor
open Go Go.RowKit

/-- More of them, one by one. -/
def dfm (l m : List Rc) : List Rc := m.foldl dput l
theorem dfm_snoc {l m : List Rc} {j : Nat} {r : Rc} (h : m[j]? = some r) : dfm l (m.take (j + 1)) = dput (dfm l (m.take j)) r := by
  rw [List.take_add_one, h]
  simp [dfm]
theorem dfm_all {l : List Rc} (h : Reg l) (h' : l.length ≤ 40) (m : List Rc) : Reg (dfm l m) ∧ (dfm l m).length ≤ 40 := by
  induction m generalizing l with
  | nil => exact ⟨h, h'⟩
  | cons r m ih => exact ih (dput_reg h r) (dput_len l r)

set_option maxRecDepth 100000 in
set_option maxHeartbeats 1000000 in
theorem dfew_any (a : Option Addr) (n c : Nat) (l : List Rc) (w : World) (h : RdC w a n c l) (hr : Reg l) :
    Calls Tryd.prog 55 #[.slice a n c] w (Ret w (if 40 < l.length then [cvl l] else l)) := by
  obtain rfl := h.len
  have hs := h.small
  have H := hid h
  clear h
  by_cases hg : 40 < l.length
  · have e1 : decide (40 < (l.length : Int)) = true := decide_eq_true (by omega)
    have k := cvl_full hr.ck (fun e => by rw [e] at hg; exact absurd hg (by decide))
    have C1 := hid (fun u hu => rcoverall_any a l.length c l u hu)
    have C2 := hid (fun u => of_any (cvl l) k.ok u)
    rw [if_pos (rgn_iff.2 hr)] at C1
    rw [ofl_ck k] at C2
    rw [if_pos hg]
    generalize cvl l = A0 at C1 C2 ⊢
    go_enter Tryd.func55, Tryd.ntmps55
    go_wp2_with fail
    refine (C1.out _ H.out).mono ?_
    rintro e w1 ⟨r, rfl, rfl, hb1⟩
    have HB1 := hid hb1
    clear hb1
    go_wp2_with fail
    refine (C2.out _).mono ?_
    rintro e w2 ⟨a2, c2, rfl, h2, hb2⟩
    have H2 := hid h2
    have HB2 := hid (Below.on HB1.out hb2)
    clear h2 hb2
    go_wp2
    go_ret
    exact ⟨_, _, rfl, H2.out, HB2.out⟩
  · have e1 : decide (40 < (l.length : Int)) = false := decide_eq_false (by omega)
    rw [if_neg hg]
    go_enter Tryd.func55, Tryd.ntmps55
    go_wp2
    go_ret
    exact ⟨_, _, rfl, H.out, Below.refl _ _⟩

set_option maxRecDepth 100000 in
set_option maxHeartbeats 1000000 in
theorem dadded_any (a a' : Option Addr) (n c n' c' : Nat) (l m : List Rc) (w : World) (h : RdC w a n c l) (h' : RdC w a' n' c' m) (hr : Reg l) (hn : n ≤ 40) :
    Calls Tryd.prog 45 #[.slice a n c, .slice a' n' c'] w (Ret w (dfm l m)) := by
  obtain rfl := h.len
  have HL := hid h'.len
  have hs := h'.small
  have H := hid h
  have H' := hid h'
  have HA := hid (fun j => dfm_all hr hn (m.take j))
  clear h h' hr hn
  go_enter Tryd.func45, Tryd.ntmps45
  go_wp2
  go_loopw [0, 9] (fun s0 s9 wr => ∃ (j : Nat) (b : Option Addr) (d : Nat), s9 = .int .i64 j ∧ s0 = .slice b (dfm l (m.take j)).length d ∧ j ≤ n' ∧ RdC wr b (dfm l (m.take j)).length d (dfm l (m.take j)) ∧ RowKit.Below w.heap.size w wr) (fun _ s9 _ => n' - (numOf s9).toNat)
  case atStart => exact ⟨0, _, _, rfl, rfl, by omega, H.out, Below.refl _ _⟩
  case round =>
    obtain ⟨j, b, d, rfl, rfl, hj, h3, hb⟩ := hrel
    have H3 := hid h3
    have HB := hid hb
    clear h3 hb H
    by_cases hgo : j < n'
    · have e1 : decide ((j : Int) < n') = true := decide_eq_true (by omega)
      obtain ⟨b2, off, r, rfl, _, hr, ok, he⟩ := (H'.out.on HB.out).el hgo
      obtain ⟨_, c0, c1, c2, c3⟩ := he
      obtain ⟨hreg, hlen⟩ := HA.out j
      have HS := hid (dfm_snoc (l := l) hr)
      generalize dfm l (m.take j) = A0 at hreg hlen HS H3 ⊢
      have hlo := ofl_length r
      have CO := hid (fun u => of_any r ok u)
      have CU := hid (fun u a2 c2 (h1 : RdC u b A0.length d A0) (h2 : RdC u a2 (ofl r).length c2 (ofl r)) => union_any b a2 A0.length d (ofl r).length c2 A0 (ofl r) u h1 h2 (by omega))
      rw [unn_reg hreg (ofl_reg r)] at CU
      have CW := hid (fun u a2 c2 (h1 : RdC u a2 (mk or A0 (ofl r)).length c2 (mk or A0 (ofl r))) => dfew_any a2 _ c2 _ u h1 (dor hreg r).1)
      rw [← dput] at CW
      generalize ofl r = O at CO CU CW hlo
      generalize mk or A0 O = U at CU CW
      generalize dput A0 r = D at CW HS
      have HN := hid (below_new wr (ob r))
      rw [ob] at HN
      clear hr ok hreg hlen hlo
      go_wp2_with fail
      refine (CO.out _).mono ?_
      rintro e w1 ⟨a1, c1', rfl, h1, hb1⟩
      have H1 := hid h1
      replace HN := hid (Below.on HN.out hb1)
      clear h1 hb1
      go_wp2_with fail
      refine (CU.out _ _ _ (H3.out.on HN.out) H1.out).mono ?_
      rintro e w2 ⟨a2, c2', rfl, h2, hb2⟩
      have H2 := hid h2
      replace HN := hid (Below.on HN.out hb2)
      clear h2 hb2
      go_wp2_with fail
      refine (CW.out _ _ _ H2.out).mono ?_
      rintro e w3 ⟨a3, c3', rfl, h4, hb3⟩
      have H4 := hid h4
      replace HN := hid (Below.on HN.out hb3)
      clear h4 hb3
      go_wp2
      go_roundw
      case rel => exact ⟨j + 1, _, _, by go_num, by rw [HS.out], by omega, by rw [HS.out]; exact H4.out, Below.on HB.out HN.out⟩
      case measure => simp [numOf]; omega
    · have e1 : decide ((j : Int) < n') = false := decide_eq_false (by omega)
      have HE : Hid (m.take j = m) := List.take_of_length_le (by rw [HL.out]; omega)
      rw [HE.out] at H3 ⊢
      go_wp2
      go_ret
      exact ⟨_, _, rfl, H3.out, HB.out⟩

set_option maxRecDepth 100000 in
set_option maxHeartbeats 1000000 in
theorem dflat_any (a : Option Addr) (n c : Nat) (l : List Rc) (w : World) (h : RdC w a n c l) :
    Calls Tryd.prog 27 #[.slice a n c] w (Ret w (dfl l)) := by
  have C1 := hid (dadded_any none a 0 0 n c [] l w (RdC.nil w) h reg_nil (by decide))
  clear h
  rw [show dfm [] l = dfl l from rfl] at C1
  generalize dfl l = D at C1 ⊢
  go_enter Tryd.func27, Tryd.ntmps27
  go_wp2_with fail
  refine C1.out.mono ?_
  rintro e w1 ⟨a1, c1, rfl, h1, hb1⟩
  have H1 := hid h1
  have HB1 := hid hb1
  clear h1 hb1
  go_wp2
  go_ret
  exact ⟨_, _, rfl, H1.out, HB1.out⟩


end Go.Proofs.YtmiapccngeafkaaDoor

/- Repaint: the contracts of the program's seen, damaged, Changed. Laid by repaint/lay.sh. -/
namespace Go.Proofs.YtmiapccngeafkaaDoor
open Go Go.RowKit

theorem Bx.kp {u v : World} {p : Nat} {a : Rc} (h : Bx u p a) {X : List Nat} (hb : Kp X u v) (hX : p ∉ X) : Bx v p a := ⟨hb.var h.obj hX⟩
theorem bnd_okq (r : Rc) : (bnd r).Ok := by
  rcases bnd_cases r with h | h
  · rw [bnd] at h ⊢
    by_cases he : emp r = true
    · rw [cut_emp1 he]; exact rz_ok
    · rw [Bool.not_eq_true] at he
      rw [cut_full he (by decide)] at h ⊢
      unfold oft at h ⊢
      split at h
      · rename_i hc
        rw [if_pos hc]; exact rz_ok
      · rename_i hc
        simp only [emp, Bool.or_eq_true, decide_eq_true_eq] at h
        omega
  · exact h.ok
/-- Cut, and moved: numbers that are not great. -/
theorem qcut_small (y : List Int) (r : Rc) : (cut (bnd r) (bnd ⟨0, 0, nm5 4 y, nm5 5 y⟩)).Ok ∧ (emp (cut (bnd r) (bnd ⟨0, 0, nm5 4 y, nm5 5 y⟩)) = false → Ck (cut (bnd r) (bnd ⟨0, 0, nm5 4 y, nm5 5 y⟩))) := by
  have key : ∀ a b : Rc, (emp a = true ∨ Ck a) → (emp b = true ∨ Ck b) → (cut a b).Ok ∧ (emp (cut a b) = false → Ck (cut a b)) := fun a b ha hb => by
    rcases ha with ha | ha
    · rw [cut_emp1 ha]; exact ⟨rz_ok, fun h => by cases h⟩
    · rcases hb with hb | hb
      · rw [cut_emp2 _ hb]; exact ⟨rz_ok, fun h => by cases h⟩
      · refine ⟨?_, cut_ck ha hb⟩
        rcases cut_two ha hb with h | ⟨h, h1, h2⟩
        · rw [h]; exact rz_ok
        · exact (cut_ck ha hb (by rw [h]; simp only [emp, Bool.or_eq_false_iff, decide_eq_false_iff_not]; omega)).ok
  exact key _ _ (bnd_cases r) (bnd_cases _)
theorem map_snoc {α β : Type} {f : α → β} {l : List α} {j : Nat} {x : α} (h : l[j]? = some x) : (l.take (j + 1)).map f = (l.take j).map f ++ [f x] := by
  rw [List.take_add_one, h, List.map_append]
  rfl
theorem fmap_snoc {α β : Type} {f : α → List β} {l : List α} {j : Nat} {x : α} (h : l[j]? = some x) : (l.take (j + 1)).flatMap f = (l.take j).flatMap f ++ f x := by
  rw [List.take_add_one, h, List.flatMap_append]
  simp

set_option maxRecDepth 100000 in
set_option maxHeartbeats 4000000 in
theorem qseen_any (z0 z1 z2 z3 z4 z5 : Int) (k : Ck (vrc [z0, z1, z2, z3, z4, z5])) (a : Option Addr) (n c : Nat) (l : List Rc) (w : World) (h : RdC w a n c l) (hn : n ≤ 1000000) :
    Calls Tryd.prog 44 #[.agg #[.int .i64 z0, .int .i64 z1, .int .i64 z2, .int .i64 z3, .int .i64 z4, .int .i64 z5], .slice a n c] w (Ret w (l.map (spt [z0, z1, z2, z3, z4, z5]))) := by
  obtain ⟨i0, hi, hz0, hz1, hz2⟩ := info3 infoC
  have HR := hid h
  have HL := hid h.len
  have hs := h.small
  have HK := hid k
  obtain ⟨y, hy⟩ : ∃ y, [z0, z1, z2, z3, z4, z5] = y := ⟨_, rfl⟩
  have e2 : nm5 2 y = z2 := by rw [← hy]; rfl
  have e3 : nm5 3 y = z3 := by rw [← hy]; rfl
  have e4 : nm5 4 y = z4 := by rw [← hy]; rfl
  have e5 : nm5 5 y = z5 := by rw [← hy]; rfl
  rw [hy] at HK ⊢
  obtain ⟨q, hq⟩ : ∃ q, bnd ⟨0, 0, z4, z5⟩ = q := ⟨_, rfl⟩
  have ok0 : (Rc.mk 0 0 z4 z5).Ok := by
    obtain ⟨k1, k2, k3, k4, k5, k6⟩ := k
    simp only [vrc, nm5, List.getD_eq_getElem?_getD, List.getElem?_cons_succ, List.getElem?_cons_zero, Option.getD_some] at k1 k2 k3 k4 k5 k6
    exact ⟨by dsimp only; omega, by dsimp only; omega, by dsimp only; omega, by dsimp only; omega⟩
  have CO := hid (fun u => bound_any ⟨0, 0, z4, z5⟩ ok0 u)
  rw [hq] at CO
  have HSP : Hid (∀ r : Rc, r.Ok → ∃ B C : Rc, (∀ u, Calls Tryd.prog 53 #[.agg #[.int .i64 r.x, .int .i64 r.y, .int .i64 r.w, .int .i64 r.h]] u fun e w' => e = .returned (.agg #[.int .i64 B.x, .int .i64 B.y, .int .i64 B.w, .int .i64 B.h]) ∧ Below u.heap.size u w')
      ∧ (∀ u, Calls Tryd.prog 47 #[.agg #[.int .i64 B.x, .int .i64 B.y, .int .i64 B.w, .int .i64 B.h], .agg #[.int .i64 q.x, .int .i64 q.y, .int .i64 q.w, .int .i64 q.h]] u fun e w' => e = .returned (.agg #[.int .i64 C.x, .int .i64 C.y, .int .i64 C.w, .int .i64 C.h]) ∧ Below u.heap.size u w')
      ∧ ∀ u, Calls Tryd.prog 54 #[.agg #[.int .i64 C.x, .int .i64 C.y, .int .i64 C.w, .int .i64 C.h], .int .i64 z2, .int .i64 z3] u fun e w' => e = .returned (.agg #[.int .i64 (spt y r).x, .int .i64 (spt y r).y, .int .i64 (spt y r).w, .int .i64 (spt y r).h]) ∧ Below u.heap.size u w') := fun r ok => by
    have hs1 := qcut_small y r
    rw [e4, e5, hq] at hs1
    have hs2 := sh_spt HK.out r
    rw [e2, e3, e4, e5, hq] at hs2
    rw [← hs2]
    refine ⟨bnd r, cut (bnd r) q, fun u => bound_any r ok u, fun u => cut_any _ _ (bnd_okq r) (by rw [← hq]; exact bnd_okq _) u, fun u => shift_any _ z2 z3 (fun he => ?_) (fun he => ?_) u⟩
    · obtain ⟨k1, k2, k3, k4, k5, k6⟩ := hs1.2 he
      have K := HK.out
      have g1 := K.x
      have g2 := K.r
      have g3 := K.w
      simp only [vrc] at g1 g2 g3
      omega
    · obtain ⟨k1, k2, k3, k4, k5, k6⟩ := hs1.2 he
      have K := HK.out
      have g1 := K.y
      have g2 := K.b
      have g3 := K.h
      simp only [vrc] at g1 g2 g3
      omega
  have HOK : Hid (∀ j : Nat, ∀ r ∈ (l.take j).map (spt y), r.Ok) := fun j r hr => by
    obtain ⟨x, _, rfl⟩ := List.mem_map.1 hr
    exact spt_ok y x
  have HV := hid (bk_new w #[.int .i64 z0, .int .i64 z1, .int .i64 z2, .int .i64 z3, .int .i64 z4, .int .i64 z5] 32)
  have HA := hid (bel_new w (.cells #[.int .i64 z0, .int .i64 z1, .int .i64 z2, .int .i64 z3, .int .i64 z4, .int .i64 z5] 32))
  clear h k ok0 hq hy e2 e3 e4 e5
  go_enter Tryd.func44, Tryd.ntmps44
  go_wp2_with fail
  refine (CO.out _).mono ?_
  rintro e w1 ⟨rfl, hb1⟩
  have hX := bx_new w1 q
  have HBW := hid (Below.on (Below.on HA.out hb1) (below_new w1 (ob q)))
  have HV1 := hid ((HV.out.on hb1).on (below_new w1 (ob q)))
  have HX1 := hid hX
  have hl1 := hX.lt
  have hl2 : w.heap.size < w1.heap.size := (HV.out.on hb1).lt
  clear hb1 hX CO HA HV
  go_wp2
  rw [ob] at HBW HV1
  generalize w1.alloc (.cells #[.int .i64 q.x, .int .i64 q.y, .int .i64 q.w, .int .i64 q.h] 24) = W0 at HBW HV1 HX1 hl1 ⊢
  go_loopw [6, 17] (fun v i wr => ∃ j : Nat, i = .int .i64 j ∧ j ≤ n ∧ OwC W0 wr v ((l.take j).map (spt y))) (fun _ i _ => n - (numOf i).toNat)
  case atStart => exact ⟨0, rfl, by omega, OwC.nil W0⟩
  case round =>
    obtain ⟨j, rfl, hj, hO⟩ := hrel
    have HO := hid hO
    have HT : Hid (((l.take j).map (spt y)).length = j) := by rw [Hid, List.length_map, List.length_take, HL.out]; omega
    obtain ⟨av, cv, rfl, _⟩ := rdc_of_owns hO.own (HOK.out j)
    rw [HT.out] at HO ⊢
    clear hO
    by_cases hgo : j < n
    · have e1 : decide ((j : Int) < n) = true := decide_eq_true (by omega)
      have e2 : (j : Int) < n := by omega
      obtain ⟨b, off, r, rfl, hb, hr, ok, he⟩ := ((HR.out.on HBW.out).on HO.out.bel).el hgo
      obtain ⟨_, d0, d1, d2, d3⟩ := he
      obtain ⟨B, C, CB, CC, CS⟩ := HSP.out r ok
      have HS := hid (map_snoc (f := spt y) hr)
      generalize spt y r = R at CS HS
      have HCB := hid CB
      have HCC := hid CC
      have HCS := hid CS
      clear hr ok CB CC CS hb
      go_upto_region 6 with fail
      have hbA := below_new wr (ob r)
      rw [ob] at hbA
      have HO2 := hid (HO.out.on hbA)
      have HS0 : Hid (Bk (wr.alloc (.cells #[.int .i64 r.x, .int .i64 r.y, .int .i64 r.w, .int .i64 r.h] 24)) w.heap.size 32 #[.int .i64 z0, .int .i64 z1, .int .i64 z2, .int .i64 z3, .int .i64 z4, .int .i64 z5] ∧ Bx (wr.alloc (.cells #[.int .i64 r.x, .int .i64 r.y, .int .i64 r.w, .int .i64 r.h] 24)) w1.heap.size q ∧ Bx (wr.alloc (.cells #[.int .i64 r.x, .int .i64 r.y, .int .i64 r.w, .int .i64 r.h] 24)) wr.heap.size r) := ⟨(HV1.out.on HO.out.bel).on hbA, (HX1.out.on HO.out.bel).on hbA, bx_new wr r⟩
      have hsz := HO.out.bel.size
      have hown : ∀ g, (Value.slice av j cv).ownBlock = some g → W0.heap.size ≤ g ∧ g < wr.heap.size := fun g hg => HO.out.own.lt g hg
      clear HO d0 d1 d2 d3 hbA
      generalize wr.alloc (.cells #[.int .i64 r.x, .int .i64 r.y, .int .i64 r.w, .int .i64 r.h] 24) = U at HO2 HS0 ⊢
      refine wp_region_held_drew (S := fun x => Bk x w.heap.size 32 #[.int .i64 z0, .int .i64 z1, .int .i64 z2, .int .i64 z3, .int .i64 z4, .int .i64 z5] ∧ Bx x w1.heap.size q ∧ Bx x wr.heap.size r) (by kernel_rfl) ?hh (fun hHeld => ?_)
      case hh => exact (⟨HS0.out.1.on (Below.refl _ _).drew, HS0.out.2.1.on (Below.refl _ _).drew, HS0.out.2.2.on (Below.refl _ _).drew⟩)
      refine wpAnyH_take (i := 0) (v := ?_) rfl (by kernel_rfl) (by kernel_rfl) (by kernel_rfl) (fun _ _ _ h => h) (Or.inl ⟨by kernel_rfl, ?hy0⟩) (by assumption) ?_
      case hy0 => (intro w hSw; (try dsimp only at hSw); have t2 := hSw.1.cell 2; have t3 := hSw.1.cell 3; obtain ⟨s0, s1, s2, s3⟩ := hSw.2.1.all; obtain ⟨r0, r1, r2, r3⟩ := hSw.2.2.all; go_simp; try with_reducible rfl)
      try simp only [Act.put, List.getElem_toArray, List.getElem_cons_zero, List.setIfInBounds_toArray, List.set_cons_zero, List.set_cons_succ]
      refine wpAnyH_take (i := 1) (v := ?_) rfl (by kernel_rfl) (by kernel_rfl) (by kernel_rfl) (fun _ _ _ h => h) (Or.inl ⟨by kernel_rfl, ?hy1⟩) (by assumption) ?_
      case hy1 => (intro w hSw; (try dsimp only at hSw); have t2 := hSw.1.cell 2; have t3 := hSw.1.cell 3; obtain ⟨s0, s1, s2, s3⟩ := hSw.2.1.all; obtain ⟨r0, r1, r2, r3⟩ := hSw.2.2.all; go_simp; try with_reducible rfl)
      try simp only [Act.put, List.getElem_toArray, List.getElem_cons_zero, List.getElem_cons_succ, List.setIfInBounds_toArray, List.set_cons_zero, List.set_cons_succ]
      refine wpAnyH_take (i := 3) (v := ?_) rfl (by kernel_rfl) (by kernel_rfl) (by kernel_rfl) (fun _ _ _ h => h) (Or.inl ⟨by kernel_rfl, ?hy3⟩) (by assumption) ?_
      case hy3 => (intro w hSw; (try dsimp only at hSw); have t2 := hSw.1.cell 2; have t3 := hSw.1.cell 3; obtain ⟨s0, s1, s2, s3⟩ := hSw.2.1.all; obtain ⟨r0, r1, r2, r3⟩ := hSw.2.2.all; go_simp; try with_reducible rfl)
      try simp only [Act.put, List.getElem_toArray, List.getElem_cons_zero, List.getElem_cons_succ, List.setIfInBounds_toArray, List.set_cons_zero, List.set_cons_succ]
      refine wpAnyH_take (i := 5) (v := ?_) rfl (by kernel_rfl) (by kernel_rfl) (by kernel_rfl) (fun _ _ _ h => h) (Or.inl ⟨by kernel_rfl, ?hy5⟩) (by assumption) ?_
      case hy5 => (intro w hSw; (try dsimp only at hSw); have t2 := hSw.1.cell 2; have t3 := hSw.1.cell 3; obtain ⟨s0, s1, s2, s3⟩ := hSw.2.1.all; obtain ⟨r0, r1, r2, r3⟩ := hSw.2.2.all; go_simp; try with_reducible rfl)
      try simp only [Act.put, List.getElem_toArray, List.getElem_cons_zero, List.getElem_cons_succ, List.setIfInBounds_toArray, List.set_cons_zero, List.set_cons_succ]
      refine wpAnyH_take (i := 6) (v := ?_) rfl (by kernel_rfl) (by kernel_rfl) (by kernel_rfl) (fun _ _ _ h => h) (Or.inl ⟨by kernel_rfl, ?hy6⟩) (by assumption) ?_
      case hy6 => (intro w hSw; (try dsimp only at hSw); have t2 := hSw.1.cell 2; have t3 := hSw.1.cell 3; obtain ⟨s0, s1, s2, s3⟩ := hSw.2.1.all; obtain ⟨r0, r1, r2, r3⟩ := hSw.2.2.all; go_simp; try with_reducible rfl)
      try simp only [Act.put, List.getElem_toArray, List.getElem_cons_zero, List.getElem_cons_succ, List.setIfInBounds_toArray, List.set_cons_zero, List.set_cons_succ]
      refine wpAnyH_take (i := 7) (v := ?_) rfl (by kernel_rfl) (by kernel_rfl) (by kernel_rfl) (fun _ _ _ h => h) (Or.inl ⟨by kernel_rfl, ?hy7⟩) (by assumption) ?_
      case hy7 => (intro w hSw; (try dsimp only at hSw); have t2 := hSw.1.cell 2; have t3 := hSw.1.cell 3; obtain ⟨s0, s1, s2, s3⟩ := hSw.2.1.all; obtain ⟨r0, r1, r2, r3⟩ := hSw.2.2.all; go_simp; try with_reducible rfl)
      try simp only [Act.put, List.getElem_toArray, List.getElem_cons_zero, List.getElem_cons_succ, List.setIfInBounds_toArray, List.set_cons_zero, List.set_cons_succ]
      refine wpAnyH_take (i := 8) (v := ?_) rfl (by kernel_rfl) (by kernel_rfl) (by kernel_rfl) (fun _ _ _ h => h) (Or.inl ⟨by kernel_rfl, ?hy8⟩) (by assumption) ?_
      case hy8 => (intro w hSw; (try dsimp only at hSw); have t2 := hSw.1.cell 2; have t3 := hSw.1.cell 3; obtain ⟨s0, s1, s2, s3⟩ := hSw.2.1.all; obtain ⟨r0, r1, r2, r3⟩ := hSw.2.2.all; go_simp; try with_reducible rfl)
      try simp only [Act.put, List.getElem_toArray, List.getElem_cons_zero, List.getElem_cons_succ, List.setIfInBounds_toArray, List.set_cons_zero, List.set_cons_succ]
      refine wpAnyH_ready (rs := [2]) (by kernel_rfl) (by simp) ?_
      refine AllReadyH.cons rfl (fun K hK => ?_) AllReadyH.nil
      go_simp
      go_wp2_with fail
      refine (HCB.out _).mono ?_
      rintro e u1 ⟨rfl, hb1⟩
      have HO3 := hid ((HO2.out.on (Below.refl _ _).drew).on hb1)
      have hH := (⟨hHeld.1.on hb1, hHeld.2.1.on hb1, hHeld.2.2.on hb1⟩ : Bk u1 w.heap.size 32 #[.int .i64 z0, .int .i64 z1, .int .i64 z2, .int .i64 z3, .int .i64 z4, .int .i64 z5] ∧ Bx u1 w1.heap.size q ∧ Bx u1 wr.heap.size r)
      refine hK.out _ _ hH (fun _ => ?_)
      clear hK K hHeld hb1 HO2 HS0
      have hHeld := hH
      clear hH
      refine wpAnyH_ready (rs := [4]) (by kernel_rfl) (by simp) ?_
      refine AllReadyH.cons rfl (fun K hK => ?_) AllReadyH.nil
      go_simp
      go_wp2_with fail
      refine (HCC.out _).mono ?_
      rintro e u2 ⟨rfl, hb2⟩
      replace HO3 := hid (HO3.out.on hb2)
      have hH := (⟨hHeld.1.on hb2, hHeld.2.1.on hb2, hHeld.2.2.on hb2⟩ : Bk u2 w.heap.size 32 #[.int .i64 z0, .int .i64 z1, .int .i64 z2, .int .i64 z3, .int .i64 z4, .int .i64 z5] ∧ Bx u2 w1.heap.size q ∧ Bx u2 wr.heap.size r)
      refine hK.out _ _ hH (fun _ => ?_)
      clear hK K hHeld hb2
      have hHeld := hH
      clear hH
      refine wpAnyH_ready (rs := [9]) (by kernel_rfl) (by simp) ?_
      refine AllReadyH.cons rfl (fun K hK => ?_) AllReadyH.nil
      go_simp
      go_wp2_with fail
      refine (HCS.out _).mono ?_
      rintro e u3 ⟨rfl, hb3⟩
      replace HO3 := hid (HO3.out.on hb3)
      have hH := (⟨hHeld.1.on hb3, hHeld.2.1.on hb3, hHeld.2.2.on hb3⟩ : Bk u3 w.heap.size 32 #[.int .i64 z0, .int .i64 z1, .int .i64 z2, .int .i64 z3, .int .i64 z4, .int .i64 z5] ∧ Bx u3 w1.heap.size q ∧ Bx u3 wr.heap.size r)
      refine hK.out _ _ hH (fun _ => ?_)
      clear hK K hHeld hb3
      have hHeld := hH
      clear hH
      refine wpAnyH_ready (rs := [10]) (by kernel_rfl) (by simp) ?_
      refine AllReadyH.cons rfl (fun K hK => ?_) AllReadyH.nil
      go_simp
      have hb4 := below_new u3 (ob R)
      rw [ob] at hb4
      have HSR := hid (srcR u3 R)
      replace HO3 := hid (HO3.out.on hb4)
      have hH := (⟨hHeld.1.on hb4, hHeld.2.1.on hb4, hHeld.2.2.on hb4⟩ : Bk (u3.alloc (.cells #[.int .i64 R.x, .int .i64 R.y, .int .i64 R.w, .int .i64 R.h] 24)) w.heap.size 32 #[.int .i64 z0, .int .i64 z1, .int .i64 z2, .int .i64 z3, .int .i64 z4, .int .i64 z5] ∧ Bx (u3.alloc (.cells #[.int .i64 R.x, .int .i64 R.y, .int .i64 R.w, .int .i64 R.h] 24)) w1.heap.size q ∧ Bx (u3.alloc (.cells #[.int .i64 R.x, .int .i64 R.y, .int .i64 R.w, .int .i64 R.h] 24)) wr.heap.size r)
      refine hK.out _ _ hH (fun _ => ?_)
      clear hK K hHeld hb4
      have hHeld := hH
      clear hH
      refine wpAnyH_ready (rs := [11]) (by kernel_rfl) (by simp) ?_
      refine AllReadyH.cons rfl (fun K hK => ?_) AllReadyH.nil
      refine step_append_own_src rfl (.tmp 21) (.tmp 31) 29 29 rfl W0.heap.size 24 i0 (.agg #[.int .i64 0, .int .i64 0, .int .i64 0, .int .i64 0]) 4 32 Tryd.underlying29 hi hz0 hz1 hz2 rfl _ _ _ (by simp [Act.eval]) HO3.out.own _ 1 _ (by simp [Act.eval]) HSR.out (by rw [HT.out]; simp only [maxLen]; omega) (fits32 (by rw [HT.out]; omega)) HO3.out.size ?_
      intro v5 u5 o5 g5
      have HO5 := hid (HO3.out.grown (m := [R]) o5 g5)
      have hk5 := kp_of_grown g5
      have hnot : ∀ p, (p < W0.heap.size ∨ wr.heap.size ≤ p) → p ∉ (Value.slice av j cv).ownBlock.toList := fun p hp hm => by {have h2 := hown p (by simpa using hm); omega}
      have hH := (⟨hHeld.1.kp hk5 (hnot _ (.inl (by omega))), hHeld.2.1.kp hk5 (hnot _ (.inl hl1)), hHeld.2.2.kp hk5 (hnot _ (.inr (Nat.le_refl _)))⟩ : Bk u5 w.heap.size 32 #[.int .i64 z0, .int .i64 z1, .int .i64 z2, .int .i64 z3, .int .i64 z4, .int .i64 z5] ∧ Bx u5 w1.heap.size q ∧ Bx u5 wr.heap.size r)
      refine hK.out _ _ hH (fun _ => ?_)
      clear hK K hHeld o5 g5 hk5
      have hHeld := hH
      clear hH HO3 HSR
      refine wpAnyH_take (i := 12) (v := ?_) rfl (by kernel_rfl) (by kernel_rfl) (by kernel_rfl) (fun _ _ _ h => h) (Or.inl ⟨by kernel_rfl, ?hy12⟩) (by assumption) ?_
      case hy12 => (intro w hSw; (try dsimp only at hSw); have t2 := hSw.1.cell 2; have t3 := hSw.1.cell 3; obtain ⟨s0, s1, s2, s3⟩ := hSw.2.1.all; obtain ⟨r0, r1, r2, r3⟩ := hSw.2.2.all; go_simp; try with_reducible rfl)
      try simp only [Act.put, List.getElem_toArray, List.getElem_cons_zero, List.getElem_cons_succ, List.setIfInBounds_toArray, List.set_cons_zero, List.set_cons_succ]
      refine wpAnyH_done (by kernel_rfl) ?_ _
      clear hHeld
      go_wp2
      go_roundw
      case rel => exact ⟨j + 1, by go_num, by omega, by rw [HS.out]; exact HO5.out⟩
      case measure => simp [numOf]; omega
    · have e1 : decide ((j : Int) < n) = false := decide_eq_false (by omega)
      have HE : Hid (l.take j = l) := List.take_of_length_le (by rw [HL.out]; omega)
      have hF := (HO.out.base HBW.out).ret (HOK.out j)
      rw [HE.out] at hF
      have HF := hid hF
      clear hF
      go_wp2
      go_ret
      exact HF.out
end Go.Proofs.YtmiapccngeafkaaDoor

/- Repaint: the contracts of the program's damaged and Changed. -/
namespace Go.Proofs.YtmiapccngeafkaaDoor
open Go Go.RowKit

/-- What the program has of damaged surfaces. -/
def qdm (y : List Int) (D : List (Int × List Rc)) : List Rc := D.flatMap fun d => if d.1 = nm5 0 y then d.2.map (spt y) else []
theorem qdm_ok {y : List Int} {D : List (Int × List Rc)} : ∀ r ∈ qdm y D, r.Ok := fun r hr => by
  obtain ⟨d, _, hr⟩ := List.mem_flatMap.1 hr
  split at hr
  · obtain ⟨x, _, rfl⟩ := List.mem_map.1 hr
    exact spt_ok y x
  · cases hr
theorem qdm_len {y : List Int} {M : Nat} : ∀ {D : List (Int × List Rc)}, (∀ d ∈ D, d.2.length ≤ M) → (qdm y D).length ≤ D.length * M
  | [], _ => by simp [qdm]
  | d :: D, h => by
    have h1 := qdm_len (y := y) (D := D) fun e he => h e (by simp [he])
    have h2 := h d (by simp)
    rw [qdm, List.flatMap_cons, List.length_append, List.length_cons, Nat.add_mul, Nat.one_mul]
    have h3 : (if d.1 = nm5 0 y then d.2.map (spt y) else []).length ≤ d.2.length := by
      split
      · rw [List.length_map]; exact Nat.le_refl _
      · exact Nat.zero_le _
    rw [qdm] at h1
    omega
theorem qdm_snoc {y : List Int} {D : List (Int × List Rc)} {j : Nat} {d : Int × List Rc} (h : D[j]? = some d) : qdm y (D.take (j + 1)) = qdm y (D.take j) ++ (if d.1 = nm5 0 y then d.2.map (spt y) else []) := fmap_snoc h

set_option maxRecDepth 100000 in
set_option maxHeartbeats 4000000 in
theorem qdamaged_any (z0 z1 z2 z3 z4 z5 : Int) (ok : (vrc [z0, z1, z2, z3, z4, z5]).Ok) (a : Option Addr) (n c : Nat) (ds : List Dv) (w : World) (h : RdD w a n c ds) (hn : n ≤ 1000) (hd : ∀ d ∈ ds, d.n ≤ 1000) :
    Calls Tryd.prog 25 #[.agg #[.int .i64 z0, .int .i64 z1, .int .i64 z2, .int .i64 z3, .int .i64 z4, .int .i64 z5], .slice a n c] w (Ret w (if dck (vrc [z0, z1, z2, z3, z4, z5]) = true then qdm [z0, z1, z2, z3, z4, z5] (ds.map ddl) else [])) := by
  obtain ⟨i0, hi, hz0, hz1, hz2⟩ := info3 infoC
  have HR := hid h
  have HL := hid h.len
  have hs := h.small
  have CC := hid (fun u => check_any (vrc [z0, z1, z2, z3, z4, z5]) ok u)
  rw [chk_dck ok] at CC
  rw [show vrc [z0, z1, z2, z3, z4, z5] = ⟨z2, z3, z4, z5⟩ from rfl] at CC ⊢
  have HV := hid (bk_new w #[.int .i64 z0, .int .i64 z1, .int .i64 z2, .int .i64 z3, .int .i64 z4, .int .i64 z5] 32)
  have HA := hid (bel_new w (.cells #[.int .i64 z0, .int .i64 z1, .int .i64 z2, .int .i64 z3, .int .i64 z4, .int .i64 z5] 32))
  cases hk : dck ⟨z2, z3, z4, z5⟩ with
  | false =>
    rw [hk] at CC
    rw [if_neg (by decide)]
    clear hk h
    go_enter Tryd.func25, Tryd.ntmps25
    go_wp2_with fail
    refine (qplace_any z0 z1 z2 z3 z4 z5 _).mono ?_
    rintro e w1 ⟨rfl, hb1⟩
    have HB1 := hid (Below.on HA.out hb1)
    clear hb1 HV HA
    go_wp2_with fail
    refine (CC.out _).mono ?_
    rintro e w2 ⟨rfl, hb2⟩
    have HB2 := hid (Below.on HB1.out hb2)
    clear hb2 HB1 CC
    go_wp2
    go_ret
    exact ⟨none, 0, rfl, RdC.nil _, HB2.out⟩
  | true =>
    rw [hk] at CC
    rw [if_pos rfl]
    have k : Ck (vrc [z0, z1, z2, z3, z4, z5]) := dck_iff.1 hk
    obtain ⟨y, hy⟩ : ∃ y, [z0, z1, z2, z3, z4, z5] = y := ⟨_, rfl⟩
    have e0 : nm5 0 y = z0 := by rw [← hy]; rfl
    have CS : Hid (∀ a n c l u, RdC u a n c l → n ≤ 1000000 → Calls Tryd.prog 44 #[.agg #[.int .i64 z0, .int .i64 z1, .int .i64 z2, .int .i64 z3, .int .i64 z4, .int .i64 z5], .slice a n c] u (Ret u (l.map (spt y)))) := fun a n c l u h1 h2 => by
      rw [← hy]
      exact qseen_any z0 z1 z2 z3 z4 z5 k a n c l u h1 h2
    rw [hy]
    have HOK : Hid (∀ j : Nat, ∀ r ∈ qdm y ((ds.map ddl).take j), r.Ok) := fun j => qdm_ok
    have HLN : Hid (∀ j : Nat, j ≤ n → (qdm y ((ds.map ddl).take j)).length ≤ 1000000) := fun j hj => by
      have h1 := qdm_len (y := y) (M := 1000) (D := (ds.map ddl).take j) fun d hd' => by
        obtain ⟨x, hx, rfl⟩ := List.mem_map.1 (List.mem_of_mem_take hd')
        have := hd x hx
        have := (h.ok x hx).rc.len
        show x.l.length ≤ 1000
        omega
      have h2 : ((ds.map ddl).take j).length ≤ 1000 := by rw [List.length_take, List.length_map, h.len]; omega
      have h3 := Nat.mul_le_mul_right 1000 h2
      omega
    have HDN := hid hd
    clear hk h k hy hd
    go_enter Tryd.func25, Tryd.ntmps25
    go_wp2_with fail
    refine (qplace_any z0 z1 z2 z3 z4 z5 _).mono ?_
    rintro e w1 ⟨rfl, hb1⟩
    have HB1 := hid (Below.on HA.out hb1)
    have HV1 := hid (HV.out.on hb1)
    clear hb1 HV HA
    go_wp2_with fail
    refine (CC.out _).mono ?_
    rintro e w2 ⟨rfl, hb2⟩
    have HB2 := hid (Below.on HB1.out hb2)
    have HV2 := hid (HV1.out.on hb2)
    clear hb2 HB1 HV1 CC
    go_wp2
    go_loopw [5, 14] (fun v i wr => ∃ j : Nat, i = .int .i64 j ∧ j ≤ n ∧ OwC w2 wr v (qdm y ((ds.map ddl).take j))) (fun _ i _ => n - (numOf i).toNat)
    case atStart => exact ⟨0, rfl, by omega, OwC.nil w2⟩
    case round =>
      obtain ⟨j, rfl, hj, hO⟩ := hrel
      have HO := hid hO
      have HLJ := hid (HLN.out j hj)
      obtain ⟨av, cv, rfl, _⟩ := rdc_of_owns hO.own (HOK.out j)
      clear hO
      by_cases hgo : j < n
      · have e1 : decide ((j : Int) < n) = true := decide_eq_true (by omega)
        have e2 : (j : Int) < n := by omega
        obtain ⟨b, off, d, rfl, hb, hr, ok, d0, d1⟩ := ((HR.out.on HB2.out).on HO.out.bel).el hgo
        have hdn := HDN.out d (List.mem_of_getElem? hr)
        have hrm : (ds.map ddl)[j]? = some (ddl d) := by rw [List.getElem?_map, hr]; rfl
        have HS1 : Hid (d.s = z0 → qdm y ((ds.map ddl).take (j + 1)) = qdm y ((ds.map ddl).take j) ++ d.l.map (spt y)) := fun h => by
          rw [qdm_snoc hrm, if_pos (show (ddl d).1 = nm5 0 y by rw [e0]; exact h)]
          rfl
        have HS0 : Hid (d.s ≠ z0 → qdm y ((ds.map ddl).take (j + 1)) = qdm y ((ds.map ddl).take j)) := fun h => by
          rw [qdm_snoc hrm, if_neg (show ¬ (ddl d).1 = nm5 0 y by rw [e0]; exact h), List.append_nil]
        have HOKN := hid (HOK.out (j + 1))
        have hbA := bel_new wr (.cells #[.int .i64 d.s, .slice d.a d.n d.c] 47)
        have HA := hid hbA
        have HD := hid ok.rc
        have hv0 := (HV2.out.on HO.out.bel).cell 0
        have HV0 := hid hv0
        obtain ⟨s, da, dn, dc, dl⟩ := d
        dsimp only at d0 d1 HA HD HS1 HS0 hdn
        generalize qdm y ((ds.map ddl).take j) = A0 at HO HS1 HS0 HLJ
        have hdl := HD.out.len
        clear hr hrm ok hbA hv0 HV0
        by_cases hse : s = z0
        · have HS := hid (HS1.out hse)
          clear HS1 HS0
          subst hse
          have t1 : (s == s) = true := by simp
          have t2 : (decide (s = s)) = true := by simp
          have vv := HV2.out.on HO.out.bel
          have q0 := vv.cell 0
          have q1 := vv.cell 1
          have q2 := vv.cell 2
          have q3 := vv.cell 3
          have q4 := vv.cell 4
          have q5 := vv.cell 5
          have ql := vv.lt
          clear vv
          have CS2 := hid (CS.out da dn dc dl _ (HD.out.on HA.out) (by omega))
          have HO2 := hid (HO.out.on HA.out)
          clear HO HD HA
          go_wp2_with fail
          refine CS2.out.mono ?_
          rintro e w4 ⟨a4, c4, rfl, h4, hb4⟩
          have HO3 := hid (HO2.out.on hb4)
          have HSR := hid (h4.src (P := Tryd.prog) (t := 29) (e := 24) Tryd.underlying29)
          have HLM : Hid ((dl.map (spt y)).length = dn) := by rw [Hid, List.length_map]; exact hdl
          generalize dl.map (spt y) = M at HSR HLM HS h4
          clear h4 hb4 HO2 CS2 d0 d1 q0 q1 q2 q3 q4 q5
          go_wp2_with (at_builtin; refine wpList_append_own_src _ rfl (.tmp 23) (.tmp 27) 29 29 rfl w2.heap.size 24 i0 (.agg #[.int .i64 0, .int .i64 0, .int .i64 0, .int .i64 0]) 4 32 Tryd.underlying29 hi hz0 hz1 hz2 rfl _ _ _ rfl HO3.out.own _ M.length _ rfl HSR.out (by have h1 := HLJ.out; have h2 := HLM.out; simp only [maxLen]; omega) (fits32 (by have h1 := HLJ.out; have h2 := HLM.out; omega)) HO3.out.size ?_; intro v5 w5 o5 g5; have HO5 := hid (HO3.out.grown (m := M) o5 g5); clear o5 g5)
          go_roundw
          case rel => exact ⟨j + 1, by go_num, by omega, by rw [HS.out]; exact HO5.out⟩
          case measure => simp [numOf]; omega
        · have t1 : (s == z0) = false := by simpa using hse
          have t2 : (decide (s = z0)) = false := by simpa using hse
          have HS := hid (HS0.out hse)
          clear HS1 HS0
          have vv := HV2.out.on HO.out.bel
          have q0 := vv.cell 0
          have ql := vv.lt
          clear vv
          have HO2 := hid (HO.out.on HA.out)
          clear HO HD HA
          go_wp2
          go_roundw
          case rel => exact ⟨j + 1, by go_num, by omega, by rw [HS.out]; exact HO2.out⟩
          case measure => simp [numOf]; omega
      · have e1 : decide ((j : Int) < n) = false := decide_eq_false (by omega)
        have HE : Hid ((ds.map ddl).take j = ds.map ddl) := List.take_of_length_le (by rw [List.length_map, HL.out]; omega)
        have hF := (HO.out.base HB2.out).ret (HOK.out j)
        rw [HE.out] at hF
        have HF := hid hF
        rw [HE.out]
        clear hF
        go_wp2
        go_ret
        exact HF.out
end Go.Proofs.YtmiapccngeafkaaDoor

/- Repaint: the contract of the program's Changed. -/
namespace Go.Proofs.YtmiapccngeafkaaDoor
open Go Go.RowKit

theorem qhp_same (y : List Int) (D : List (Int × List Rc)) : qhp (some y) (some y) D = if dck (vrc y) = true then qdm y D else [] := by
  rw [qhp, if_pos rfl]
  rfl
theorem qhp_diff {o v : Option (List Int)} (h : o ≠ v) (D : List (Int × List Rc)) : qhp o v D = (o.toList ++ v.toList).map vrc := by
  cases o with
  | none => cases v <;> rfl
  | some a =>
    cases v with
    | none => rfl
    | some b =>
      rw [qhp, if_neg (fun e => h (by rw [e]))]
      rfl
theorem qhp_len (o v : Option (List Int)) {D : List (Int × List Rc)} (hD : D.length ≤ 1000) (hd : ∀ d ∈ D, d.2.length ≤ 100) : (qhp o v D).length ≤ 100000 := by
  by_cases h : o = v
  · subst h
    cases o with
    | none => exact Nat.zero_le _
    | some y =>
      rw [qhp_same]
      split
      · have h1 := qdm_len (y := y) hd
        omega
      · exact Nat.zero_le _
  · rw [qhp_diff h, List.length_map, List.length_append]
    have h1 : o.toList.length ≤ 1 := by cases o <;> simp
    have h2 : v.toList.length ≤ 1 := by cases v <;> simp
    omega
theorem qhN_len (o v : List (List Int)) {D : List (Int × List Rc)} (hD : D.length ≤ 1000) (hd : ∀ d ∈ D, d.2.length ≤ 100) (k : Nat) : (qhN o v D k).length ≤ k * 100000 := by
  induction k with
  | zero => simp [qhN]
  | succ k ih =>
    have h := qhp_len o[k]? v[k]? hD hd
    rw [qhN_succ, List.length_append, Nat.add_mul, Nat.one_mul]
    omega
theorem qhp_ok {o v : Option (List Int)} {D : List (Int × List Rc)} (ho : ∀ y ∈ o.toList, (vrc y).Ok) (hv : ∀ y ∈ v.toList, (vrc y).Ok) : ∀ r ∈ qhp o v D, r.Ok := fun r hr => by
  by_cases h : o = v
  · subst h
    cases o with
    | none => cases hr
    | some y =>
      rw [qhp_same] at hr
      split at hr
      · exact qdm_ok r hr
      · cases hr
  · rw [qhp_diff h] at hr
    obtain ⟨y, hy, rfl⟩ := List.mem_map.1 hr
    rcases List.mem_append.1 hy with hy | hy
    · exact ho y hy
    · exact hv y hy
theorem opt_mem {α : Type} {l : List α} {k : Nat} {y : α} (h : y ∈ (l[k]?).toList) : y ∈ l := by
  cases e : l[k]? with
  | none => rw [e] at h; cases h
  | some x =>
    rw [e] at h
    obtain rfl : y = x := by simpa using h
    exact List.mem_of_getElem? e
theorem qhN_ok {o v : List (List Int)} {D : List (Int × List Rc)} (ho : ∀ y ∈ o, (vrc y).Ok) (hv : ∀ y ∈ v, (vrc y).Ok) (k : Nat) : ∀ r ∈ qhN o v D k, r.Ok := by
  induction k with
  | zero => intro r hr; cases hr
  | succ k ih =>
    intro r hr
    rw [qhN_succ] at hr
    rcases List.mem_append.1 hr with hr | hr
    · exact ih r hr
    · exact qhp_ok (fun y hy => ho y (opt_mem hy)) (fun y hy => hv y (opt_mem hy)) r hr

theorem infoVq : (Tryd.prog.info? 32).map (fun i => (i.zero, i.size, i.bytes)) = some (some (.agg #[.int .i64 0, .int .i64 0, .int .i64 0, .int .i64 0, .int .i64 0, .int .i64 0]), 6, 48) := by kernel_rfl
set_option maxRecDepth 100000 in
set_option maxHeartbeats 4000000 in
theorem qchanged_any (a : Option Addr) (n c : Nat) (o : List (List Int)) (a' : Option Addr) (n' c' : Nat) (v : List (List Int)) (a2 : Option Addr) (n2 c2 : Nat) (ds : List Dv) (w : World) (h : RdM 6 w a n c o) (h' : RdM 6 w a' n' c' v) (hd : RdD w a2 n2 c2 ds) (ho : ∀ y ∈ o, (vrc y).Ok) (hv : ∀ y ∈ v, (vrc y).Ok) (hn : n ≤ 1000) (hn' : n' ≤ 1000) (hnd : n2 ≤ 1000) (hdn : ∀ d ∈ ds, d.n ≤ 100) :
    Calls Tryd.prog 12 #[.slice a n c, .slice a' n' c', .slice a2 n2 c2] w (Ret w (dfl (chl o v (ds.map ddl)))) := by
  obtain ⟨i0, hi, hz0, hz1, hz2⟩ := info3 infoC
  obtain ⟨i1, hj1, hy0, hy1, hy2⟩ := infoMP infoVq
  obtain ⟨M, hM⟩ : ∃ M, max n n' = M := ⟨_, rfl⟩
  have e0 : max (n : Int) (n' : Int) = (M : Int) := by omega
  have HM := hid hM
  have hM1 : M ≤ 1000 := by omega
  have HR := hid h
  have HR' := hid h'
  have HD := hid hd
  have HL := hid h.len
  have HL' := hid h'.len
  have hs := h.small
  have hs' := h'.small
  have hs2 := hd.small
  obtain ⟨D, hDD⟩ : ∃ D, ds.map ddl = D := ⟨_, rfl⟩
  have hDl : D.length ≤ 1000 := by rw [← hDD, List.length_map, hd.len]; exact hnd
  have hDd : ∀ d ∈ D, d.2.length ≤ 100 := fun d hm => by
    rw [← hDD] at hm
    obtain ⟨x, hx, rfl⟩ := List.mem_map.1 hm
    have := hdn x hx
    have := (hd.ok x hx).rc.len
    show x.l.length ≤ 100
    omega
  have HLN : Hid (∀ j : Nat, j ≤ M → (qhN o v D j).length ≤ 100000000) := fun j hj => by
    have h1 := qhN_len o v hDl hDd j
    have h2 := Nat.mul_le_mul_right 100000 (Nat.le_trans hj hM1)
    omega
  have HLO : Hid (∀ j : Nat, (qhp o[j]? v[j]? D).length ≤ 100000) := fun j => qhp_len _ _ hDl hDd
  have HOK : Hid (∀ j : Nat, ∀ r ∈ qhN o v D j, r.Ok) := fun j => qhN_ok ho hv j
  have HVO := hid ho
  have HVV := hid hv
  have HDN : Hid (∀ d ∈ ds, d.n ≤ 1000) := fun d hm => by have := hdn d hm; omega
  have HE : Hid (dfl (qhN o v D M) = dfl (chl o v D)) := by
    rw [Hid, qhN_dfl, chl, HL.out, HL'.out, HM.out]
  have HFL : Hid (∀ a c l u, RdC u a l.length c l → Calls Tryd.prog 27 #[.slice a l.length c] u (Ret u (dfl l))) := fun a c l u hu => dflat_any a _ c l u hu
  have HDM := hid hDD
  rw [hDD]
  generalize dfl (chl o v D) = R at HE ⊢
  clear h h' hd ho hv hdn hDl hDd hM hDD
  go_enter Tryd.func12, Tryd.ntmps12
  go_wp2
  go_loopw [7, 16] (fun s7 i wr => ∃ j : Nat, i = .int .i64 j ∧ j ≤ M ∧ OwC w wr s7 (qhN o v D j)) (fun _ i _ => M - (numOf i).toNat)
  case atStart => exact ⟨0, rfl, by omega, OwC.nil w⟩
  case round =>
    obtain ⟨j, rfl, hj, hO⟩ := hrel
    have HO := hid hO
    have HLJ := hid (HLN.out j hj)
    obtain ⟨av, cv, rfl, hrv⟩ := rdc_of_owns hO.own (HOK.out j)
    by_cases hgo : j < M
    · have e1 : decide ((j : Int) < M) = true := decide_eq_true (by omega)
      have e2 : (j : Int) < M := by omega
      have C1 := hid (qat_any a n c o wr (HR.out.on HO.out.bel) j (by omega))
      have C2 := hid (qat_any a' n' c' v wr (HR'.out.on HO.out.bel) j (by omega))
      have HS := hid (qhN_succ o v D j)
      have HPL := hid (HLO.out j)
      have HV1 : Hid (∀ y ∈ (o[j]?).toList, (vrc y).Ok) := fun y hy => HVO.out y (opt_mem hy)
      have HV2 : Hid (∀ y ∈ (v[j]?).toList, (vrc y).Ok) := fun y hy => HVV.out y (opt_mem hy)
      have hne : o[j]? ≠ none ∨ v[j]? ≠ none := by
        rcases Nat.lt_or_ge j n with h1 | h1
        · exact .inl (by rw [List.getElem?_eq_getElem (by rw [HL.out]; exact h1)]; simp)
        · exact .inr (by rw [List.getElem?_eq_getElem (by rw [HL'.out]; have := HM.out; omega)]; simp)
      generalize o[j]? = oj at C1 HS HPL HV1 hne
      generalize v[j]? = vj at C2 HS HPL HV2 hne
      generalize qhN o v D j = A0 at HO HLJ HS
      have C3 : Hid (∀ a3 a4, RdM 6 wr a3 oj.toList.length oj.toList.length oj.toList → RdM 6 wr a4 vj.toList.length vj.toList.length vj.toList → Calls Tryd.prog 24 #[.slice a3 oj.toList.length oj.toList.length, .slice a4 vj.toList.length vj.toList.length] wr fun e w' => e = .returned (.bool (decide (oj = vj))) ∧ ∃ q, w' = wr.drewN q) := fun a3 a4 h3 h4 => qsame_any a3 a4 oj vj wr h3 h4 hne
      clear hO hrv
      by_cases hsm : oj = vj
      · subst hsm
        rw [show decide (oj = oj) = true by simp] at C3
        cases oj with
        | none => simp at hne
        | some y =>
          rw [qhp_same] at HS HPL
          have HY := hid (HV2.out y (by simp))
          have HX := HR'.out.size
          clear hne HV1 HV2
          go_wp2_with fail
          refine C1.out.mono ?_
          rintro e u1 ⟨⟨a3, rfl, h3⟩, rfl⟩
          have H3 := hid h3
          clear h3
          go_wp2_with fail
          refine C2.out.mono ?_
          rintro e u2 ⟨⟨a4, rfl, h4⟩, rfl⟩
          have H4 := hid h4
          clear h4 C1 C2
          go_wp2_with fail
          refine (C3.out a3 a4 H3.out H4.out).mono ?_
          rintro e u3 ⟨rfl, q, rfl⟩
          have HO3 := hid (HO.out.on (below_drewN (Below.refl _ _) q))
          have h4 := H4.out.drewN q
          clear C3 H3 H4 HO
          obtain ⟨b4, off4, z0, z1, z2, z3, z4, z5, rfl, hb4, hy4, d0, d1, d2, d3, d4, d5⟩ := RdM.el6 (j := 0) h4 (show 0 < 1 by decide)
          simp only [Option.toList_some, List.getElem?_cons_zero, Option.some.injEq] at hy4
          subst hy4
          rw [Nat.zero_mul, Nat.add_zero] at d0 d1 d2 d3 d4 d5
          have CD := hid (qdamaged_any z0 z1 z2 z3 z4 z5 HY.out a2 n2 c2 ds _ (HD.out.on HO3.out.bel) hnd HDN.out)
          rw [HDM.out] at CD
          generalize (if dck (vrc [z0, z1, z2, z3, z4, z5]) = true then qdm [z0, z1, z2, z3, z4, z5] D else []) = B0 at CD HS HPL
          clear h4 HY
          go_wp2_with fail
          refine CD.out.mono ?_
          rintro e w5 ⟨a5, c5, rfl, h5, hb5⟩
          have HO5 := hid (HO3.out.on hb5)
          have HSR := hid (h5.src (P := Tryd.prog) (t := 29) (e := 24) Tryd.underlying29)
          clear h5 hb5 HO3 CD d0 d1 d2 d3 d4 d5
          go_wp2_with (at_builtin; refine wpList_append_own_src _ rfl (.tmp 28) (.tmp 33) 29 29 rfl w.heap.size 24 i0 (.agg #[.int .i64 0, .int .i64 0, .int .i64 0, .int .i64 0]) 4 32 Tryd.underlying29 hi hz0 hz1 hz2 rfl _ _ _ rfl HO5.out.own _ B0.length _ rfl HSR.out (by have h1 := HLJ.out; have h2 := HPL.out; simp only [maxLen]; omega) (fits32 (by have h1 := HLJ.out; have h2 := HPL.out; omega)) HO5.out.size ?_; intro v6 w6 o6 g6; have HO6 := hid (HO5.out.grown (m := B0) o6 g6); clear o6 g6)
          go_roundw
          case rel => exact ⟨j + 1, by go_num, by omega, by rw [HS.out]; exact HO6.out⟩
          case measure => simp [numOf]; omega
      · rw [show decide (oj = vj) = false by simpa using hsm] at C3
        rw [qhp_diff hsm] at HS HPL
        have hpos : 0 < oj.toList.length + vj.toList.length := by
          rcases hne with h1 | h1
          · cases oj with
            | none => exact absurd rfl h1
            | some y =>
              rw [Option.toList_some, List.length_singleton]
              omega
          · cases vj with
            | none => exact absurd rfl h1
            | some y =>
              rw [Option.toList_some, List.length_singleton]
              omega
        have hl1 : oj.toList.length ≤ 1 := by cases oj <;> simp
        have hl2 : vj.toList.length ≤ 1 := by cases vj <;> simp
        have HVA : Hid (∀ y ∈ oj.toList ++ vj.toList, (vrc y).Ok) := fun y hy => by
          rcases List.mem_append.1 hy with hy | hy
          · exact HV1.out y hy
          · exact HV2.out y hy
        clear hne HV1 HV2 hsm
        generalize oj.toList = ol at *
        generalize vj.toList = vl at *
        go_wp2_with fail
        refine C1.out.mono ?_
        rintro e u1 ⟨⟨a3, rfl, h3⟩, rfl⟩
        have H3 := hid h3
        clear h3
        go_wp2_with fail
        refine C2.out.mono ?_
        rintro e u2 ⟨⟨a4, rfl, h4⟩, rfl⟩
        have H4 := hid h4
        clear h4 C1 C2
        go_wp2_with fail
        refine (C3.out a3 a4 H3.out H4.out).mono ?_
        rintro e u3 ⟨rfl, q, rfl⟩
        have HO3 := hid (HO.out.on (below_drewN (Below.refl _ _) q))
        have H3' := hid (H3.out.drewN q)
        have H4' := hid (H4.out.drewN q)
        clear C3 H3 H4 HO
        go_wp2_with (at_builtin; refine wpList_append_full _ rfl (.tmp 36) (.tmp 37) 33 33 rfl 32 32 i1 (.agg #[.int .i64 0, .int .i64 0, .int .i64 0, .int .i64 0, .int .i64 0, .int .i64 0]) 6 48 Tryd.underlying33 Tryd.underlying33 hj1 hy0 hy1 hy2 rfl a3 ol.length ol rfl H3'.out a4 vl.length vl.length vl rfl H4'.out hpos (by simp only [maxLen]; omega) (fits48 (by omega) (by omega)) ?_; intro a6 c6 w6 hr6 hb6; have HR6 := hid hr6; have HO6 := hid (HO3.out.on hb6); clear hr6 hb6)
        clear H3' H4' HO3
        go_wp2_with fail
        refine (qplaces_any a6 _ c6 (ol ++ vl) _ HR6.out HVA.out (by omega)).mono ?_
        rintro e w7 ⟨a7, c7, rfl, h7, hb7⟩
        have HO7 := hid (HO6.out.on hb7)
        have HSR := hid (h7.src (P := Tryd.prog) (t := 29) (e := 24) Tryd.underlying29)
        generalize (ol ++ vl).map vrc = B0 at HSR HS HPL h7
        clear h7 hb7 HO6 HR6
        go_wp2_with (at_builtin; refine wpList_append_own_src _ rfl (.tmp 35) (.tmp 39) 29 29 rfl w.heap.size 24 i0 (.agg #[.int .i64 0, .int .i64 0, .int .i64 0, .int .i64 0]) 4 32 Tryd.underlying29 hi hz0 hz1 hz2 rfl _ _ _ rfl HO7.out.own _ B0.length _ rfl HSR.out (by have h1 := HLJ.out; have h2 := HPL.out; simp only [maxLen]; omega) (fits32 (by have h1 := HLJ.out; have h2 := HPL.out; omega)) HO7.out.size ?_; intro v8 w8 o8 g8; have HO8 := hid (HO7.out.grown (m := B0) o8 g8); clear o8 g8)
        go_roundw
        case rel => exact ⟨j + 1, by go_num, by omega, by rw [HS.out]; exact HO8.out⟩
        case measure => simp [numOf]; omega
    · have e1 : decide ((j : Int) < M) = false := decide_eq_false (by omega)
      obtain rfl : j = M := by omega
      have HB := hid hO.bel
      have CF := hid (HFL.out av cv _ wr hrv)
      rw [HE.out] at CF
      clear hO hrv HO HLJ
      go_wp2_with fail
      refine CF.out.mono ?_
      rintro e w9 ⟨a9, c9, rfl, h9, hb9⟩
      have H9 := hid h9
      have HB9 := hid (Below.on HB.out hb9)
      clear h9 hb9
      go_wp2
      go_ret
      exact ⟨a9, c9, rfl, H9.out, HB9.out⟩
end Go.Proofs.YtmiapccngeafkaaDoor

/- tableaulaw09's awake. -/
namespace Go.Proofs.YtmiapccngeafkaaDoor
open Go Go.RowKit

theorem dput_nil {r : Rc} (k : Ck r) : dput [] r = [r] := by
  have hd := dor reg_nil r
  have e : mk or [] (ofl r) = [r] := reg_eq hd.1 (reg_one k) fun x y => by rw [hd.2, ofl_ck k, pt_nil, Bool.false_or]
  rw [dput, e, if_neg (by simp)]
theorem ex_add : dput (dfl []) ⟨0, 0, 2, 2⟩ = [⟨0, 0, 2, 2⟩] := dput_nil ⟨by decide, by decide, by decide, by decide, by decide, by decide⟩
theorem ex_clip : mk and (dfl [⟨0, 0, 2, 2⟩]) (ofl ⟨5, 0, 1, 1⟩) = [] := by
  have k1 : Ck ⟨0, 0, 2, 2⟩ := ⟨by decide, by decide, by decide, by decide, by decide, by decide⟩
  have k2 : Ck ⟨5, 0, 1, 1⟩ := ⟨by decide, by decide, by decide, by decide, by decide, by decide⟩
  rw [show dfl [⟨0, 0, 2, 2⟩] = dput [] ⟨0, 0, 2, 2⟩ from rfl, dput_nil k1, ofl_ck k2]
  obtain ⟨h1, h2, _⟩ := mk_all (f := and) rfl (reg_one k1).ck (reg_one k2).ck
  refine reg_eq h1 reg_nil fun x y => ?_
  rw [h2, pt_nil, ← Bool.not_eq_true, Bool.and_eq_true, pt_iff, pt_iff]
  simp only [List.mem_singleton, exists_eq_left, has_iff]
  omega

end Go.Proofs.YtmiapccngeafkaaDoor

/- Append on a row of one's own, with the place where the new row lies, in a drawing region. -/
namespace Go.Proofs.YtmiapccngeafkaaDoor
open Go Go.RowKit

section
variable {P : Program} (w : World)
/-- As 'step_appG', and where the new row lies. -/
theorem step_appP {ops : Array Oper} {o : Oper} {a : Act} {K : Act → World → Prop} {Q : Exit → Act → World → Prop} {E : Prop}
    (hwt : Region.wanted o (yielded ops a.tmps) = true) (s x : Operand) (t tx : TypeId) (hop : o.op = .call { callee := .builtin .append, args := #[s, x], argTypes := #[t, tx] })
    (base : Nat) (e : TypeId) (i : TypeInfo) (z : Value) (size bytes : Nat) (ht : P.underlying t = some (.slice e)) (hi : P.info? e = some i) (hz : i.zero = some z)
    (hsize : i.size = size) (hby : i.bytes = bytes) (hzs : z.cells.size = size)
    (v : Value) (n : Nat) (xs : List Value) (hs : a.eval s = v) (hown : w.ownsRow base e size v n xs)
    (xv : Value) (m : Nat) (news : List Value) (hx : a.eval x = xv) (hsrc : Src P size tx xv m news w)
    (h63 : n + m ≤ maxLen) (hbytes : ∀ old, old < n + m → Builtin.nextslicecap (n + m) old * bytes ≤ 281474976710656) (hbase : base ≤ w.heap.size)
    (h : ∀ v' w', w'.ownsRow base e size v' (n + m) (xs ++ news) → w.grownBy w' v.ownBlock → (v'.ownBlock = v.ownBlock ∨ v'.ownBlock = some w.heap.size) → K (a.put o.dst v') w') :
    if Region.wanted o (yielded ops a.tmps) = true then Oper.wp P o a w K Q else E := by
  rw [if_pos hwt]
  obtain ⟨v', w', hr, h2, h3, h4⟩ := run_append_own_at (P := P) w base t tx o.type e i z size bytes ht hi hz hsize hby hzs v n xs hown xv m news hsrc h63 hbytes hbase
  unfold Oper.wp
  simp [execOp, hop, resolve, invoke, builtin, hs, hx, hr, Result.andThen]
  exact h v' w' h2 h3 h4
end
end Go.Proofs.YtmiapccngeafkaaDoor

/- Repaint: the law's dirt, near, awake. Laid by repaint/lay.sh. -/
namespace Go.Proofs.YtmiapccngeafkaaDoor
open Go Go.RowKit

theorem owns_new {u : World} {base e m k n c : Nat} {a : Option Addr} {xs : List Value} (h : u.ownsRow base e m (.slice a n c) k xs) {x : Addr} (hx : a = some x) : base ≤ x.block := by
  rcases h.2 with ⟨h1, _⟩ | ⟨g, cap, cur, h1, hb, _⟩
  · cases h1; cases hx
  · cases h1
    cases hx
    exact hb


theorem max4 {P : Program} (ts : Array TypeId) (t : TypeId) (x y z v : Int) (w : World) : (Builtin.max_ ts t #[.int .i64 x, .int .i64 y, .int .i64 z, .int .i64 v]).run P w = .ok (.int .i64 (max (max (max x y) z) v)) w := by
  have e : ∀ p q : Int, (if p < q then q else p) = max p q := fun p q => by
    rw [Int.max_def]
    split <;> split <;> omega
  simp [Builtin.max_, Builtin.max2, e]
theorem min4 {P : Program} (ts : Array TypeId) (t : TypeId) (x y z v : Int) (w : World) : (Builtin.min_ ts t #[.int .i64 x, .int .i64 y, .int .i64 z, .int .i64 v]).run P w = .ok (.int .i64 (min (min (min x y) z) v)) w := by
  have e : ∀ p q : Int, (if q < p then q else p) = min p q := fun p q => by
    rw [Int.min_def]
    split <;> split <;> omega
  simp [Builtin.min_, Builtin.min2, e]
/-- Views where sums do not go round. -/
def nrv (y : List Int) : Bool := decide (max (max (max (nm5 2 y) (nm5 3 y)) (nm5 4 y)) (nm5 5 y) ≤ 67108864) && decide (-67108864 ≤ min (min (min (nm5 2 y) (nm5 3 y)) (nm5 4 y)) (nm5 5 y))
def nrB (l : List (List Int)) : Bool := l.all nrv && decide (l.length ≤ 10)
theorem nrB_len {l : List (List Int)} (h : nrB l = true) : l.length ≤ 10 := by
  rw [nrB, Bool.and_eq_true] at h
  exact of_decide_eq_true h.2


/-- Whether there is not too much. -/
def diOk (ds : List Dv) : Bool := decide (ds.length ≤ 8) && ds.all fun d => decide (d.n ≤ 8)
theorem diOk_len {ds : List Dv} (h : diOk ds = true) : ds.length ≤ 8 := by
  rw [diOk, Bool.and_eq_true] at h
  exact of_decide_eq_true h.1
/-- What dirt answers. -/
def DiR (w : World) (ds : List Dv) (e : Ending) (w' : World) : Prop := ∃ v, e = .returned (.tuple #[v, .bool (diOk ds)]) ∧ Below w.heap.size w w' ∧ (diOk ds = true → ∃ a n c hs, v = .slice a n c ∧ RdD w' a n c hs ∧ hs.map ddl = ds.map ddl ∧ (∀ d ∈ hs, d.n ≤ 8) ∧ n ≤ 8)


theorem ex24_one : dfl (chl [] [[1, 0, 0, 0, 2, 2]] []) = [⟨0, 0, 2, 2⟩] := dput_nil (r := ⟨0, 0, 2, 2⟩) ⟨by decide, by decide, by decide, by decide, by decide, by decide⟩
set_option maxRecDepth 100000 in
set_option maxHeartbeats 1000000 in
theorem qawake24_any (w : World) : Calls Tryd.prog 4 #[] w fun e w' => e = .returned (.bool true) ∧ Below w.heap.size w w' := by
  have hg := eqlR_guard
  have q := eqlR ⟨0, 0, 2, 2⟩ ⟨0, 0, 2, 2⟩
  rw [rceq_same] at q
  dsimp only at q
  have okv : ∀ y ∈ ([[1, 0, 0, 0, 2, 2]] : List (List Int)), (vrc y).Ok := fun y hy => by
    rw [List.mem_singleton.1 hy]
    exact ⟨by decide, by decide, by decide, by decide⟩
  have hL : RdM 6 (w.alloc (.cells #[.int .i64 1, .int .i64 0, .int .i64 0, .int .i64 0, .int .i64 2, .int .i64 2] 32)) (some ⟨w.heap.size, 0, none⟩) 1 1 [[1, 0, 0, 0, 2, 2]] := by
    refine ⟨rfl, Nat.le_refl _, by decide, (fun h => by cases h), fun _ => ⟨w.heap.size, 0, rfl, by simp, fun j y hj k z hz => ?_⟩, fun y hy => by rw [List.mem_singleton.1 hy]; rfl⟩
    match j, hj with
    | 0, hj =>
      cases hj
      rw [Nat.zero_mul, Nat.zero_add, Nat.zero_add, (bk_new w #[.int .i64 1, .int .i64 0, .int .i64 0, .int .i64 0, .int .i64 2, .int .i64 2] 32).cell]
      match k, hz with
      | 0, hz => cases hz; rfl
      | 1, hz => cases hz; rfl
      | 2, hz => cases hz; rfl
      | 3, hz => cases hz; rfl
      | 4, hz => cases hz; rfl
      | 5, hz => cases hz; rfl
  have HB := hid (bel_new w (.cells #[.int .i64 1, .int .i64 0, .int .i64 0, .int .i64 0, .int .i64 2, .int .i64 2] 32))
  have C1 := hid (qchanged_any none 0 0 [] (some ⟨w.heap.size, 0, none⟩) 1 1 [[1, 0, 0, 0, 2, 2]] none 0 0 [] _ (RdM.nil 6 _) hL (RdD.nil _) (by simp) okv (by omega) (by omega) (by omega) (by simp))
  rw [show (([] : List Dv).map ddl) = [] from rfl, ex24_one] at C1
  have C2 := hid (fun u hu => qchanged_any (some ⟨w.heap.size, 0, none⟩) 1 1 [[1, 0, 0, 0, 2, 2]] (some ⟨w.heap.size, 0, none⟩) 1 1 [[1, 0, 0, 0, 2, 2]] none 0 0 [] u hu hu (RdD.nil _) okv okv (by omega) (by omega) (by omega) (by simp))
  rw [show dfl (chl [[1, 0, 0, 0, 2, 2]] [[1, 0, 0, 0, 2, 2]] (([] : List Dv).map ddl)) = [] from by rw [ch_same (by simp)]; rfl] at C2
  have HLL := hid hL
  clear hL okv
  go_enter Tryd.func4, Tryd.ntmps4
  go_wp2_with fail
  refine C1.out.mono ?_
  rintro e w1 ⟨a1, c1, rfl, h1, hb1⟩
  have HB1 := hid (Below.on HB.out hb1)
  have HL1 := hid (HLL.out.on hb1)
  have H1 := hid h1
  clear h1 hb1 C1 HB HLL
  go_wp2_with fail
  refine (C2.out _ HL1.out).mono ?_
  rintro e w2 ⟨a2, c2, rfl, h2, hb2⟩
  have HB2 := hid (Below.on HB1.out hb2)
  obtain ⟨b, off, rfl, _, hel⟩ := (H1.out.on hb2).pl (by decide)
  obtain ⟨_, d0, d1, d2, d3⟩ := hel 0 ⟨0, 0, 2, 2⟩ rfl
  simp only [Nat.zero_mul, Nat.add_zero] at d0 d1 d2 d3
  clear hb2 h2 H1 HL1 C2 hel HB1
  go_wp2
  go_ret
  exact ⟨rfl, HB2.out⟩
end Go.Proofs.YtmiapccngeafkaaDoor
