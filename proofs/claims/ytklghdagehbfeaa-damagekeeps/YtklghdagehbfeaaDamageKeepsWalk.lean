/- DamageKeeps: for every list of rectangles, a rectangle and two numbers the call returns true; nothing that was there has turned. -/
import Derived.Test.YtklghdagehbfeaaDmgD
import Derived.Test.YtklghdagehbfeaaRgfH
namespace Go.Proofs.Ytklghdagehbfeaa.damageKeeps
open Go Go.RowKit

/-- How many there may be of two. -/
theorem and_cnt {a b m : List Rc} (hm : Reg m) (h : ∀ x y, pt m x y = (pt a x y && pt b x y)) : m.length ≤ (a ++ b).length * (2 * (a ++ b).length) := by
  have h1 : (m.map fun r => (r.x, r.y)).Nodup := by
    rw [List.nodup_iff_pairwise_ne, List.pairwise_map]
    refine hm.aft.imp_of_mem fun {a b} ha hb hr e => ?_
    have k1 := (hm.ck a ha).w
    have k2 := (hm.ck a ha).h
    simp only [Prod.mk.injEq] at e
    rcases hr with ⟨_, _, _⟩ | _ <;> omega
  have lft : ∀ (l : List Rc) (u v : Int), pt l u v = true → pt l (u - 1) v = false → ∃ c ∈ l, c.x = u := fun l u v i1 i2 => by
    obtain ⟨c, hc, h3⟩ := pt_iff.1 i1
    have h4 := pt_no.1 i2 c hc
    rw [← Bool.not_eq_true, has_iff] at h4
    rw [has_iff] at h3
    exact ⟨c, hc, by omega⟩
  have lin : ∀ (l : List Rc) (u v : Int), pt l u (v - 1) ≠ pt l u v → ∃ c ∈ l, v = c.y ∨ v = c.y + c.h := fun l u v i => by
    cases e1 : pt l u (v - 1)
    · cases e2 : pt l u v
      · exact absurd (e1.trans e2.symm) i
      · obtain ⟨c, hc, h6⟩ := pt_iff.1 e2
        have h7 := pt_no.1 e1 c hc
        rw [← Bool.not_eq_true, has_iff] at h7
        rw [has_iff] at h6
        exact ⟨c, hc, by omega⟩
    · cases e2 : pt l u v
      · obtain ⟨c, hc, h6⟩ := pt_iff.1 e1
        have h7 := pt_no.1 e2 c hc
        rw [← Bool.not_eq_true, has_iff] at h7
        rw [has_iff] at h6
        exact ⟨c, hc, by omega⟩
      · exact absurd (e1.trans e2.symm) i
  have h2 := nodup_len (m := (a ++ b).flatMap fun c => (a ++ b).flatMap fun d => [(c.x, d.y), (c.x, d.y + d.h)]) h1 fun p hp => by
    obtain ⟨r, hr, rfl⟩ := List.mem_map.1 hp
    have k := hm.mark hr
    have kw := k.w
    have i1 := k.ins r.x (by omega) (by omega)
    have i2 := k.left
    rw [h] at i1 i2
    rw [Bool.and_eq_true] at i1
    have hc : ∃ c ∈ a ++ b, c.x = r.x := by
      rcases Bool.and_eq_false_iff.1 i2 with i2 | i2
      · obtain ⟨c, hc, e⟩ := lft a _ _ i1.1 i2
        exact ⟨c, List.mem_append.2 (.inl hc), e⟩
      · obtain ⟨c, hc, e⟩ := lft b _ _ i1.2 i2
        exact ⟨c, List.mem_append.2 (.inr hc), e⟩
    have hd : ∃ d ∈ a ++ b, r.y = d.y ∨ r.y = d.y + d.h := by
      obtain ⟨x, hx⟩ := k.top
      rw [h, h] at hx
      by_cases e : pt a x (r.y - 1) = pt a x r.y
      · have e' : pt b x (r.y - 1) ≠ pt b x r.y := fun e' => hx (by rw [e, e'])
        obtain ⟨d, hd, e⟩ := lin b _ _ e'
        exact ⟨d, List.mem_append.2 (.inr hd), e⟩
      · obtain ⟨d, hd, e⟩ := lin a _ _ e
        exact ⟨d, List.mem_append.2 (.inl hd), e⟩
    obtain ⟨c, hc, ec⟩ := hc
    obtain ⟨d, hd, ed⟩ := hd
    refine List.mem_flatMap.2 ⟨c, hc, List.mem_flatMap.2 ⟨d, hd, ?_⟩⟩
    rw [← ec]
    rcases ed with ed | ed <;> rw [ed] <;> simp
  rw [List.length_map] at h2
  refine Nat.le_trans h2 ?_
  have key : ∀ (l q : List Rc), (l.flatMap fun c => q.flatMap fun d => [(c.x, d.y), (c.x, d.y + d.h)]).length = l.length * (2 * q.length) := fun l q => by
    induction l with
    | nil => simp
    | cons c l ih =>
      have e : ∀ q : List Rc, (q.flatMap fun d => [(c.x, d.y), (c.x, d.y + d.h)]).length = 2 * q.length := fun q => by
        induction q with
        | nil => rfl
        | cons d q ih2 => rw [List.flatMap_cons, List.length_append, ih2, List.length_cons]; simp only [List.length_cons, List.length_nil]; omega
      rw [List.flatMap_cons, List.length_append, ih, e, List.length_cons, Nat.add_mul]
      omega
  exact Nat.le_of_eq (key _ _)
theorem pt_snoc {l : List Rc} {j : Nat} {r : Rc} (h : l[j]? = some r) (p q : Int) : pt (l.take (j + 1)) p q = (pt (l.take j) p q || has r p q) := by
  rw [List.take_add_one, h, pt_append]
  simp [pt]


set_option maxRecDepth 100000 in
set_option maxHeartbeats 1000000 in
theorem core (a0 : Option Addr) (c0 : Nat) (A : List Rc) (r : Rc) (ok : r.Ok) (x y : Int) (hx : -9223372036854775808 ≤ x ∧ x ≤ 9223372036854775807) (hy : -9223372036854775808 ≤ y ∧ y ≤ 9223372036854775807) (w : World) (r0 : RdC w a0 A.length c0 A) :
    Calls Try.prog 4 #[.slice a0 A.length c0, .agg #[.int .i64 r.x, .int .i64 r.y, .int .i64 r.w, .int .i64 r.h], .int .i64 x, .int .i64 y] w fun e w' => e = .returned (.bool true) ∧ Below w.heap.size w w' := by
  have HX := hid (bx_new w r)
  have HA := hid (r0.on (below_new w (ob r)))
  have HBel := hid (below_new w (ob r))
  rw [ob] at HA HBel
  have hs := r0.small
  clear r0
  by_cases hA : 12 < A.length
  · have e1 : decide (12 < (A.length : Int)) = true := decide_eq_true (by omega)
    go_enter Try.func4, Try.ntmps4
    go_wp2_with fail
    refine (dawake_any _).mono ?_
    rintro e w2 ⟨rfl, hb2⟩
    replace HBel := hid (Below.on HBel.out hb2)
    clear hb2
    go_wp2
    go_ret
    exact ⟨rfl, HBel.out⟩
  have e1 : decide (12 < (A.length : Int)) = false := decide_eq_false (by omega)
  have q1 := plc_lt x 33554432 (by decide)
  have q2 := plc_lt y 33554432 (by decide)
  have CP := hid (fun u => place_any x 33554432 hx (by decide) (by decide) u)
  have CQ := hid (fun u => place_any y 33554432 hy (by decide) (by decide) u)
  generalize plc x 33554432 = P1 at q1 CP
  generalize plc y 33554432 = Q1 at q2 CQ
  have hp : -16777216 ≤ (P1 : Int) - 16777216 ∧ (P1 : Int) - 16777216 < 16777216 := by omega
  have hq : -16777216 ≤ (Q1 : Int) - 16777216 ∧ (Q1 : Int) - 16777216 < 16777216 := by omega
  obtain ⟨p, ep⟩ : ∃ p : Int, (P1 : Int) - 16777216 = p := ⟨_, rfl⟩
  obtain ⟨q, eq⟩ : ∃ q : Int, (Q1 : Int) - 16777216 = q := ⟨_, rfl⟩
  have f1 : IntKind.i64.wrap ((P1 : Int) - 16777216) = p := by rw [IntKind.wrap_i64]; omega
  have f2 : IntKind.i64.wrap ((Q1 : Int) - 16777216) = q := by rw [IntKind.wrap_i64]; omega
  rw [ep] at hp
  rw [eq] at hq
  clear q1 q2 ep eq hx hy
  have hp2 : -9223372036854775808 ≤ p ∧ p ≤ 9223372036854775807 := by omega
  have hq2 : -9223372036854775808 ≤ q ∧ q ≤ 9223372036854775807 := by omega
  have RD := dfl_reg A
  have LD := dfl_len A
  have LO := ofl_length r
  have RE := dput_reg RD r
  have LE := dput_len (dfl A) r
  obtain ⟨RF, PF, _⟩ := mk_all (f := and) (a := dfl A) (b := ofl r) rfl RD.ck (ofl_reg r).ck
  have LF : (mk and (dfl A) (ofl r)).length ≤ 4096 := by
    have h1 := and_cnt RF PF
    rw [List.length_append] at h1
    have h2 : (dfl A).length + (ofl r).length ≤ 41 := by omega
    have h3 := Nat.mul_le_mul h2 (Nat.mul_le_mul (Nat.le_refl 2) h2)
    omega
  have EO := ofl_has ok hp hq
  have EF := PF p q
  rw [EO] at EF
  have EE : (pt A p q = true ∨ has r p q = true) → pt (dput (dfl A) r) p q = true := fun h => by
    rcases h with h | h
    · obtain ⟨a, ha, h'⟩ := pt_iff.1 h
      exact dput_pt RD (.inl (dfl_pts ha (by rw [ofl_has (HA.out.ok a ha) hp hq]; exact h')))
    · exact dput_pt RD (.inr (by rw [EO]; exact h))
  have CH := hid (fun u => rhas_any r ok p q hp2 hq2 u)
  have CA := hid (fun u (a : Option Addr) (c : Nat) (h : RdC u a A.length c A) => dadd_any a A.length c A r ok u h)
  have CC := hid (fun u (a : Option Addr) (c : Nat) (h : RdC u a A.length c A) => dclip_any a A.length c A r ok u h)
  have CF := hid (fun u (a : Option Addr) (c : Nat) (h : RdC u a A.length c A) => dflat_any a A.length c A u h)
  have KE := hid (fun u (a : Option Addr) (c : Nat) (h : RdC u a (dput (dfl A) r).length c (dput (dfl A) r)) => rregcheck_any a _ c _ u h (by omega))
  rw [rgn_iff.2 RE] at KE
  have KF := hid (fun u (a : Option Addr) (c : Nat) (h : RdC u a (mk and (dfl A) (ofl r)).length c (mk and (dfl A) (ofl r))) => rregcheck_any a _ c _ u h LF)
  rw [rgn_iff.2 RF] at KF
  have PE := hid (fun u (a : Option Addr) (c : Nat) (h : RdC u a (dput (dfl A) r).length c (dput (dfl A) r)) => rpt_any a _ c _ p q hp2 hq2 u h)
  have PF' := hid (fun u (a : Option Addr) (c : Nat) (h : RdC u a (mk and (dfl A) (ofl r)).length c (mk and (dfl A) (ofl r))) => rpt_any a _ c _ p q hp2 hq2 u h)
  have PD := hid (fun u (a : Option Addr) (c : Nat) (h : RdC u a (dfl A).length c (dfl A)) => rpt_any a _ c _ p q hp2 hq2 u h)
  rw [EF] at PF'
  clear RD LD LO RE RF PF LF EO EF ok
  generalize dput (dfl A) r = E at EE CA KE PE LE
  generalize mk and (dfl A) (ofl r) = F at CC KF PF'
  generalize dfl A = D at CF PD PF'
  generalize has r p q = β at EE CH PF'
  generalize pt D p q = δ at PD PF'
  have HEE := hid EE
  have CT := hid (fun u (a : Rc) (h : a ∈ A) => rhas_any a (HA.out.ok a h) p q hp2 hq2 u)
  clear EE hp hq hp2 hq2
  go_enter Try.func4, Try.ntmps4
  go_wp2_with fail
  refine (CP.out _).mono ?_
  rintro e w3 ⟨rfl, rfl⟩
  go_wp2_with fail
  refine (CQ.out _).mono ?_
  rintro e w4 ⟨rfl, rfl⟩
  clear CP CQ
  generalize w.alloc (.cells #[.int .i64 r.x, .int .i64 r.y, .int .i64 r.w, .int .i64 r.h] 24) = w1 at HX HA HBel ⊢
  go_wp2
  go_loopw [11, 12] (fun s11 s12 wr => ∃ j : Nat, s12 = .int .i64 j ∧ s11 = .bool (pt (A.take j) p q) ∧ j ≤ A.length ∧ RowKit.Below w1.heap.size w1 wr) (fun _ s12 _ => A.length - (numOf s12).toNat)
  case atStart => exact ⟨0, rfl, rfl, by omega, Below.refl _ _⟩
  case round =>
    obtain ⟨j, rfl, rfl, hj, hb⟩ := hrel
    have HB := hid hb
    clear hb
    by_cases hgo : j < A.length
    · have e2 : decide ((j : Int) < A.length) = true := decide_eq_true (by omega)
      have e3 : (j : Int) < A.length := by omega
      obtain ⟨b, off, t, hbo, _, hr, _, he⟩ := (HA.out.on HB.out).el hgo
      subst hbo
      obtain ⟨_, d0, d1, d2, d3⟩ := he
      have HS := hid (pt_snoc hr p q)
      have CH2 := hid (fun u => CT.out u t (List.mem_of_getElem? hr))
      clear hr
      cases hv : pt (A.take j) p q
      · rw [hv, Bool.false_or] at HS
        generalize has t p q = τ at HS CH2
        go_wp2_with fail
        refine (CH2.out _).mono ?_
        rintro e w5 ⟨rfl, hb5⟩
        have HB5 := hid (Below.on HB.out hb5)
        clear hb5
        go_wp2
        go_roundw
        case rel => exact ⟨j + 1, by go_num, by rw [HS.out], by omega, HB5.out⟩
        case measure => simp [numOf]; omega
      · rw [hv, Bool.true_or] at HS
        go_wp2
        go_roundw
        case rel => exact ⟨j + 1, by go_num, by rw [HS.out], by omega, HB.out⟩
        case measure => simp [numOf]; omega
    · have e2 : decide ((j : Int) < A.length) = false := decide_eq_false (by omega)
      have HE : Hid (A.take j = A) := List.take_of_length_le (by omega)
      rw [HE.out]
      clear HE
      generalize pt A p q = α at HEE ⊢
      replace HX := hid (HX.out.on HB.out)
      replace HA := hid (HA.out.on HB.out)
      replace HBel := hid (Below.on HBel.out HB.out)
      obtain ⟨d0, d1, d2, d3⟩ := HX.out.all
      clear HB CT
      go_wp2_with fail
      refine (CH.out _).mono ?_
      rintro e w6 ⟨rfl, hb6⟩
      replace HX := hid (HX.out.on hb6)
      replace HA := hid (HA.out.on hb6)
      replace HBel := hid (Below.on HBel.out hb6)
      clear hb6 d0 d1 d2 d3
      go_upto_region 10 with fail
      refine wp_region_held_drew (S := fun x => Below w6.heap.size w6 x) (by kernel_rfl) (Below.refl _ _).drew (fun hHeld => ?_)
      have hHeld : Below w6.heap.size w6 w6.drew := hHeld
      refine wpAnyH_take (i := 0) (v := ?_) rfl (by kernel_rfl) (by kernel_rfl) (by kernel_rfl) (fun _ _ _ h => h) (Or.inl ⟨by kernel_rfl, ?hy0⟩) (by assumption) ?_
      case hy0 => (intro w hSw; (try dsimp only at hSw); obtain ⟨t00, t01, t02, t03⟩ := (HX.out.on hSw).all; go_simp; try with_reducible rfl)
      try simp only [Act.put, List.getElem_toArray, List.getElem_cons_zero, List.setIfInBounds_toArray, List.set_cons_zero, List.set_cons_succ]
      refine wpAnyH_take (i := 1) (v := ?_) rfl (by kernel_rfl) (by kernel_rfl) (by kernel_rfl) (fun _ _ _ h => h) (Or.inl ⟨by kernel_rfl, ?hy1⟩) (by assumption) ?_
      case hy1 => (intro w hSw; (try dsimp only at hSw); obtain ⟨t00, t01, t02, t03⟩ := (HX.out.on hSw).all; go_simp; try with_reducible rfl)
      try simp only [Act.put, List.getElem_toArray, List.getElem_cons_zero, List.getElem_cons_succ, List.setIfInBounds_toArray, List.set_cons_zero, List.set_cons_succ]
      refine wpAnyH_take (i := 3) (v := ?_) rfl (by kernel_rfl) (by kernel_rfl) (by kernel_rfl) (fun _ _ _ h => h) (Or.inl ⟨by kernel_rfl, ?hy3⟩) (by assumption) ?_
      case hy3 => (intro w hSw; (try dsimp only at hSw); obtain ⟨t00, t01, t02, t03⟩ := (HX.out.on hSw).all; go_simp; try with_reducible rfl)
      try simp only [Act.put, List.getElem_toArray, List.getElem_cons_zero, List.getElem_cons_succ, List.setIfInBounds_toArray, List.set_cons_zero, List.set_cons_succ]
      refine wpAnyH_take (i := 4) (v := ?_) rfl (by kernel_rfl) (by kernel_rfl) (by kernel_rfl) (fun _ _ _ h => h) (Or.inl ⟨by kernel_rfl, ?hy4⟩) (by assumption) ?_
      case hy4 => (intro w hSw; (try dsimp only at hSw); obtain ⟨t00, t01, t02, t03⟩ := (HX.out.on hSw).all; go_simp; try with_reducible rfl)
      try simp only [Act.put, List.getElem_toArray, List.getElem_cons_zero, List.getElem_cons_succ, List.setIfInBounds_toArray, List.set_cons_zero, List.set_cons_succ]
      refine wpAnyH_ready (rs := [2]) (by kernel_rfl) (by simp) ?_
      refine AllReadyH.cons rfl (fun K hK => ?_) AllReadyH.nil
      go_simp
      go_wp2_with fail
      refine (CA.out _ _ _ (HA.out.on hHeld)).mono ?_
      rintro e v20 ⟨b20, d20, rfl, h20, hb20⟩
      replace hHeld := Below.on hHeld hb20
      have G20 := hid h20
      refine hK.out _ _ hHeld (fun _ => ?_)
      clear hK K hb20 h20
      refine wpAnyH_ready (rs := [5]) (by kernel_rfl) (by simp) ?_
      refine AllReadyH.cons rfl (fun K hK => ?_) AllReadyH.nil
      go_simp
      go_wp2_with fail
      refine (CC.out _ _ _ (HA.out.on hHeld)).mono ?_
      rintro e v21 ⟨b21, d21, rfl, h21, hb21⟩
      replace G20 := hid (G20.out.on hb21)
      replace hHeld := Below.on hHeld hb21
      have G21 := hid h21
      refine hK.out _ _ hHeld (fun _ => ?_)
      clear hK K hb21 h21
      refine wpAnyH_take (i := 6) (v := ?_) rfl (by kernel_rfl) (by kernel_rfl) (by kernel_rfl) (fun _ _ _ h => h) (Or.inl ⟨by kernel_rfl, ?hy6⟩) (by assumption) ?_
      case hy6 => (intro w hSw; (try dsimp only at hSw); obtain ⟨t00, t01, t02, t03⟩ := (HX.out.on hSw).all; go_simp; try with_reducible rfl)
      try simp only [Act.put, List.getElem_toArray, List.getElem_cons_zero, List.getElem_cons_succ, List.setIfInBounds_toArray, List.set_cons_zero, List.set_cons_succ]
      refine wpAnyH_take (i := 7) (v := ?_) rfl (by kernel_rfl) (by kernel_rfl) (by kernel_rfl) (fun _ _ _ h => h) (Or.inl ⟨by kernel_rfl, ?hy7⟩) (by assumption) ?_
      case hy7 => (intro w hSw; (try dsimp only at hSw); obtain ⟨t00, t01, t02, t03⟩ := (HX.out.on hSw).all; go_simp; try with_reducible rfl)
      try simp only [Act.put, List.getElem_toArray, List.getElem_cons_zero, List.getElem_cons_succ, List.setIfInBounds_toArray, List.set_cons_zero, List.set_cons_succ]
      refine wpAnyH_done (by kernel_rfl) ?_ _
      replace HA := hid (HA.out.on hHeld)
      replace HBel := hid (Below.on HBel.out hHeld)
      clear hHeld HX CA CC CH
      have n1 : ∀ z : Bool, (z == z) = true := fun z => by simp
      have e5 : decide ((E.length : Int) ≤ 40) = true := decide_eq_true (by omega)
      cases β
      · rw [Bool.and_false] at PF'
        cases α
        · go_wp2_with fail
          refine (PF'.out _ _ _ G21.out).mono ?_
          rintro e z32 ⟨rfl, hz32⟩
          replace G20 := hid (G20.out.on hz32)
          replace G21 := hid (G21.out.on hz32)
          replace HA := hid (HA.out.on hz32)
          replace HBel := hid (Below.on HBel.out hz32)
          clear hz32
          go_wp2_with fail
          refine (KE.out _ _ _ G20.out).mono ?_
          rintro e z35 ⟨rfl, hz35⟩
          replace G20 := hid (G20.out.on hz35)
          replace G21 := hid (G21.out.on hz35)
          replace HA := hid (HA.out.on hz35)
          replace HBel := hid (Below.on HBel.out hz35)
          clear hz35
          go_wp2_with fail
          refine (KF.out _ _ _ G21.out).mono ?_
          rintro e z36 ⟨rfl, hz36⟩
          replace G20 := hid (G20.out.on hz36)
          replace G21 := hid (G21.out.on hz36)
          replace HA := hid (HA.out.on hz36)
          replace HBel := hid (Below.on HBel.out hz36)
          clear hz36
          go_wp2_with fail
          refine (dawake_any _).mono ?_
          rintro e z37 ⟨rfl, hz37⟩
          replace G20 := hid (G20.out.on hz37)
          replace G21 := hid (G21.out.on hz37)
          replace HA := hid (HA.out.on hz37)
          replace HBel := hid (Below.on HBel.out hz37)
          clear hz37
          go_wp2
          go_ret
          exact ⟨rfl, HBel.out⟩
        · rw [HEE.out (by simp)] at PE
          go_wp2_with fail
          refine (PE.out _ _ _ G20.out).mono ?_
          rintro e z31 ⟨rfl, hz31⟩
          replace G20 := hid (G20.out.on hz31)
          replace G21 := hid (G21.out.on hz31)
          replace HA := hid (HA.out.on hz31)
          replace HBel := hid (Below.on HBel.out hz31)
          clear hz31
          go_wp2_with fail
          refine (PF'.out _ _ _ G21.out).mono ?_
          rintro e z32 ⟨rfl, hz32⟩
          replace G20 := hid (G20.out.on hz32)
          replace G21 := hid (G21.out.on hz32)
          replace HA := hid (HA.out.on hz32)
          replace HBel := hid (Below.on HBel.out hz32)
          clear hz32
          go_wp2_with fail
          refine (KE.out _ _ _ G20.out).mono ?_
          rintro e z35 ⟨rfl, hz35⟩
          replace G20 := hid (G20.out.on hz35)
          replace G21 := hid (G21.out.on hz35)
          replace HA := hid (HA.out.on hz35)
          replace HBel := hid (Below.on HBel.out hz35)
          clear hz35
          go_wp2_with fail
          refine (KF.out _ _ _ G21.out).mono ?_
          rintro e z36 ⟨rfl, hz36⟩
          replace G20 := hid (G20.out.on hz36)
          replace G21 := hid (G21.out.on hz36)
          replace HA := hid (HA.out.on hz36)
          replace HBel := hid (Below.on HBel.out hz36)
          clear hz36
          go_wp2_with fail
          refine (dawake_any _).mono ?_
          rintro e z37 ⟨rfl, hz37⟩
          replace G20 := hid (G20.out.on hz37)
          replace G21 := hid (G21.out.on hz37)
          replace HA := hid (HA.out.on hz37)
          replace HBel := hid (Below.on HBel.out hz37)
          clear hz37
          go_wp2
          go_ret
          exact ⟨rfl, HBel.out⟩
      · rw [Bool.and_true] at PF'
        cases α
        · rw [HEE.out (by simp)] at PE
          go_wp2_with fail
          refine (PE.out _ _ _ G20.out).mono ?_
          rintro e z31 ⟨rfl, hz31⟩
          replace G20 := hid (G20.out.on hz31)
          replace G21 := hid (G21.out.on hz31)
          replace HA := hid (HA.out.on hz31)
          replace HBel := hid (Below.on HBel.out hz31)
          clear hz31
          go_wp2_with fail
          refine (PF'.out _ _ _ G21.out).mono ?_
          rintro e z32 ⟨rfl, hz32⟩
          replace G20 := hid (G20.out.on hz32)
          replace G21 := hid (G21.out.on hz32)
          replace HA := hid (HA.out.on hz32)
          replace HBel := hid (Below.on HBel.out hz32)
          clear hz32
          go_wp2_with fail
          refine (CF.out _ _ _ HA.out).mono ?_
          rintro e z33 ⟨a33, c33, rfl, h33, hz33⟩
          replace G20 := hid (G20.out.on hz33)
          replace G21 := hid (G21.out.on hz33)
          replace HA := hid (HA.out.on hz33)
          replace HBel := hid (Below.on HBel.out hz33)
          have HD := hid h33
          clear hz33 h33
          go_wp2_with fail
          refine (PD.out _ _ _ HD.out).mono ?_
          rintro e z34 ⟨rfl, hz34⟩
          replace G20 := hid (G20.out.on hz34)
          replace G21 := hid (G21.out.on hz34)
          replace HA := hid (HA.out.on hz34)
          replace HBel := hid (Below.on HBel.out hz34)
          clear hz34
          go_wp2_with fail
          refine (KE.out _ _ _ G20.out).mono ?_
          rintro e z35 ⟨rfl, hz35⟩
          replace G20 := hid (G20.out.on hz35)
          replace G21 := hid (G21.out.on hz35)
          replace HA := hid (HA.out.on hz35)
          replace HBel := hid (Below.on HBel.out hz35)
          clear hz35
          go_wp2_with fail
          refine (KF.out _ _ _ G21.out).mono ?_
          rintro e z36 ⟨rfl, hz36⟩
          replace G20 := hid (G20.out.on hz36)
          replace G21 := hid (G21.out.on hz36)
          replace HA := hid (HA.out.on hz36)
          replace HBel := hid (Below.on HBel.out hz36)
          clear hz36
          go_wp2_with fail
          refine (dawake_any _).mono ?_
          rintro e z37 ⟨rfl, hz37⟩
          replace G20 := hid (G20.out.on hz37)
          replace G21 := hid (G21.out.on hz37)
          replace HA := hid (HA.out.on hz37)
          replace HBel := hid (Below.on HBel.out hz37)
          clear hz37
          go_wp2
          go_ret
          exact ⟨rfl, HBel.out⟩
        · rw [HEE.out (by simp)] at PE
          go_wp2_with fail
          refine (PE.out _ _ _ G20.out).mono ?_
          rintro e z31 ⟨rfl, hz31⟩
          replace G20 := hid (G20.out.on hz31)
          replace G21 := hid (G21.out.on hz31)
          replace HA := hid (HA.out.on hz31)
          replace HBel := hid (Below.on HBel.out hz31)
          clear hz31
          go_wp2_with fail
          refine (PF'.out _ _ _ G21.out).mono ?_
          rintro e z32 ⟨rfl, hz32⟩
          replace G20 := hid (G20.out.on hz32)
          replace G21 := hid (G21.out.on hz32)
          replace HA := hid (HA.out.on hz32)
          replace HBel := hid (Below.on HBel.out hz32)
          clear hz32
          go_wp2_with fail
          refine (CF.out _ _ _ HA.out).mono ?_
          rintro e z33 ⟨a33, c33, rfl, h33, hz33⟩
          replace G20 := hid (G20.out.on hz33)
          replace G21 := hid (G21.out.on hz33)
          replace HA := hid (HA.out.on hz33)
          replace HBel := hid (Below.on HBel.out hz33)
          have HD := hid h33
          clear hz33 h33
          go_wp2_with fail
          refine (PD.out _ _ _ HD.out).mono ?_
          rintro e z34 ⟨rfl, hz34⟩
          replace G20 := hid (G20.out.on hz34)
          replace G21 := hid (G21.out.on hz34)
          replace HA := hid (HA.out.on hz34)
          replace HBel := hid (Below.on HBel.out hz34)
          clear hz34
          go_wp2_with fail
          refine (KE.out _ _ _ G20.out).mono ?_
          rintro e z35 ⟨rfl, hz35⟩
          replace G20 := hid (G20.out.on hz35)
          replace G21 := hid (G21.out.on hz35)
          replace HA := hid (HA.out.on hz35)
          replace HBel := hid (Below.on HBel.out hz35)
          clear hz35
          go_wp2_with fail
          refine (KF.out _ _ _ G21.out).mono ?_
          rintro e z36 ⟨rfl, hz36⟩
          replace G20 := hid (G20.out.on hz36)
          replace G21 := hid (G21.out.on hz36)
          replace HA := hid (HA.out.on hz36)
          replace HBel := hid (Below.on HBel.out hz36)
          clear hz36
          go_wp2_with fail
          refine (dawake_any _).mono ?_
          rintro e z37 ⟨rfl, hz37⟩
          replace G20 := hid (G20.out.on hz37)
          replace G21 := hid (G21.out.on hz37)
          replace HA := hid (HA.out.on hz37)
          replace HBel := hid (Below.on HBel.out hz37)
          clear hz37
          go_wp2
          go_ret
          exact ⟨rfl, HBel.out⟩

theorem walk (a0 : Option Addr) (n0 c0 : Nat) (l0 : List (List Int)) (x0 y0 z0 u0 x y : Int) (w : World) (r0 : RdN 4 w a0 n0 c0 l0) (h0 : ∀ k ∈ [x0, y0, z0, u0], (Lit.int .i64 k).wf = true) (hx : (Lit.int .i64 x).wf = true) (hy : (Lit.int .i64 y).wf = true) :
    Calls Try.prog 4 #[.slice a0 n0 c0, .agg #[.int .i64 x0, .int .i64 y0, .int .i64 z0, .int .i64 u0], .int .i64 x, .int .i64 y] w fun e w' => e = .returned (.bool true) ∧ Below w.heap.size w w' := by
  have g0 := rdc_of_rdn r0
  obtain ⟨A, hA⟩ : ∃ A, A = (List.range n0).map (rcOf l0) := ⟨_, rfl⟩
  rw [← hA] at g0
  obtain rfl : A.length = n0 := g0.len
  exact core a0 c0 A ⟨x0, y0, z0, u0⟩ (ok4 h0) x y (range64 hx) (range64 hy) w g0
end Go.Proofs.Ytklghdagehbfeaa.damageKeeps
