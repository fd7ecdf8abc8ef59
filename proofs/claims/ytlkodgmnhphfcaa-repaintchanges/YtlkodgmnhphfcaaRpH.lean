/- Repaint: the contract of the program's Changed. -/
import Derived.Test.YtlkodgmnhphfcaaRpG
namespace Go.Proofs.Ytlkodgmnhphfcaa
open Go Go.RowKit

theorem qhp_same (y : List Int) (D : List (Int × List Rc)) : qhp (some y) (some y) D = if dck (vrc y) = true then qdm y D else [] := by
  rw [qhp, if_pos rfl]
  rfl
theorem qhp_diff {o v : Option (List Int)} (h : o ≠ v) (D : List (Int × List Rc)) : qhp o v D = (o.toList ++ v.toList).map vrc := by
  cases o with
  | none => cases v <;> rfl
  | some a =>
    cases v with
    | none => rfl
    | some b =>
      rw [qhp, if_neg (fun e => h (by rw [e]))]
      rfl
theorem qhp_len (o v : Option (List Int)) {D : List (Int × List Rc)} (hD : D.length ≤ 1000) (hd : ∀ d ∈ D, d.2.length ≤ 100) : (qhp o v D).length ≤ 100000 := by
  by_cases h : o = v
  · subst h
    cases o with
    | none => exact Nat.zero_le _
    | some y =>
      rw [qhp_same]
      split
      · have h1 := qdm_len (y := y) hd
        omega
      · exact Nat.zero_le _
  · rw [qhp_diff h, List.length_map, List.length_append]
    have h1 : o.toList.length ≤ 1 := by cases o <;> simp
    have h2 : v.toList.length ≤ 1 := by cases v <;> simp
    omega
theorem qhN_len (o v : List (List Int)) {D : List (Int × List Rc)} (hD : D.length ≤ 1000) (hd : ∀ d ∈ D, d.2.length ≤ 100) (k : Nat) : (qhN o v D k).length ≤ k * 100000 := by
  induction k with
  | zero => simp [qhN]
  | succ k ih =>
    have h := qhp_len o[k]? v[k]? hD hd
    rw [qhN_succ, List.length_append, Nat.add_mul, Nat.one_mul]
    omega
theorem qhp_ok {o v : Option (List Int)} {D : List (Int × List Rc)} (ho : ∀ y ∈ o.toList, (vrc y).Ok) (hv : ∀ y ∈ v.toList, (vrc y).Ok) : ∀ r ∈ qhp o v D, r.Ok := fun r hr => by
  by_cases h : o = v
  · subst h
    cases o with
    | none => cases hr
    | some y =>
      rw [qhp_same] at hr
      split at hr
      · exact qdm_ok r hr
      · cases hr
  · rw [qhp_diff h] at hr
    obtain ⟨y, hy, rfl⟩ := List.mem_map.1 hr
    rcases List.mem_append.1 hy with hy | hy
    · exact ho y hy
    · exact hv y hy
theorem opt_mem {α : Type} {l : List α} {k : Nat} {y : α} (h : y ∈ (l[k]?).toList) : y ∈ l := by
  cases e : l[k]? with
  | none => rw [e] at h; cases h
  | some x =>
    rw [e] at h
    obtain rfl : y = x := by simpa using h
    exact List.mem_of_getElem? e
theorem qhN_ok {o v : List (List Int)} {D : List (Int × List Rc)} (ho : ∀ y ∈ o, (vrc y).Ok) (hv : ∀ y ∈ v, (vrc y).Ok) (k : Nat) : ∀ r ∈ qhN o v D k, r.Ok := by
  induction k with
  | zero => intro r hr; cases hr
  | succ k ih =>
    intro r hr
    rw [qhN_succ] at hr
    rcases List.mem_append.1 hr with hr | hr
    · exact ih r hr
    · exact qhp_ok (fun y hy => ho y (opt_mem hy)) (fun y hy => hv y (opt_mem hy)) r hr

theorem infoVq : (Try.prog.info? 40).map (fun i => (i.zero, i.size, i.bytes)) = some (some (.agg #[.int .i64 0, .int .i64 0, .int .i64 0, .int .i64 0, .int .i64 0, .int .i64 0]), 6, 48) := by kernel_rfl
set_option maxRecDepth 100000 in
set_option maxHeartbeats 4000000 in
theorem qchanged_any (a : Option Addr) (n c : Nat) (o : List (List Int)) (a' : Option Addr) (n' c' : Nat) (v : List (List Int)) (a2 : Option Addr) (n2 c2 : Nat) (ds : List Dv) (w : World) (h : RdM 6 w a n c o) (h' : RdM 6 w a' n' c' v) (hd : RdD w a2 n2 c2 ds) (ho : ∀ y ∈ o, (vrc y).Ok) (hv : ∀ y ∈ v, (vrc y).Ok) (hn : n ≤ 1000) (hn' : n' ≤ 1000) (hnd : n2 ≤ 1000) (hdn : ∀ d ∈ ds, d.n ≤ 100) :
    Calls Try.prog 9 #[.slice a n c, .slice a' n' c', .slice a2 n2 c2] w (Ret w (dfl (chl o v (ds.map ddl)))) := by
  obtain ⟨i0, hi, hz0, hz1, hz2⟩ := info3 infoC
  obtain ⟨i1, hj1, hy0, hy1, hy2⟩ := infoMP infoVq
  obtain ⟨M, hM⟩ : ∃ M, max n n' = M := ⟨_, rfl⟩
  have e0 : max (n : Int) (n' : Int) = (M : Int) := by omega
  have HM := hid hM
  have hM1 : M ≤ 1000 := by omega
  have HR := hid h
  have HR' := hid h'
  have HD := hid hd
  have HL := hid h.len
  have HL' := hid h'.len
  have hs := h.small
  have hs' := h'.small
  have hs2 := hd.small
  obtain ⟨D, hDD⟩ : ∃ D, ds.map ddl = D := ⟨_, rfl⟩
  have hDl : D.length ≤ 1000 := by rw [← hDD, List.length_map, hd.len]; exact hnd
  have hDd : ∀ d ∈ D, d.2.length ≤ 100 := fun d hm => by
    rw [← hDD] at hm
    obtain ⟨x, hx, rfl⟩ := List.mem_map.1 hm
    have := hdn x hx
    have := (hd.ok x hx).rc.len
    show x.l.length ≤ 100
    omega
  have HLN : Hid (∀ j : Nat, j ≤ M → (qhN o v D j).length ≤ 100000000) := fun j hj => by
    have h1 := qhN_len o v hDl hDd j
    have h2 := Nat.mul_le_mul_right 100000 (Nat.le_trans hj hM1)
    omega
  have HLO : Hid (∀ j : Nat, (qhp o[j]? v[j]? D).length ≤ 100000) := fun j => qhp_len _ _ hDl hDd
  have HOK : Hid (∀ j : Nat, ∀ r ∈ qhN o v D j, r.Ok) := fun j => qhN_ok ho hv j
  have HVO := hid ho
  have HVV := hid hv
  have HDN : Hid (∀ d ∈ ds, d.n ≤ 1000) := fun d hm => by have := hdn d hm; omega
  have HE : Hid (dfl (qhN o v D M) = dfl (chl o v D)) := by
    rw [Hid, qhN_dfl, chl, HL.out, HL'.out, HM.out]
  have HFL : Hid (∀ a c l u, RdC u a l.length c l → Calls Try.prog 18 #[.slice a l.length c] u (Ret u (dfl l))) := fun a c l u hu => dflat_any a _ c l u hu
  have HDM := hid hDD
  rw [hDD]
  generalize dfl (chl o v D) = R at HE ⊢
  clear h h' hd ho hv hdn hDl hDd hM hDD
  go_enter Try.func9, Try.ntmps9
  go_wp2
  go_loopw [7, 16] (fun s7 i wr => ∃ j : Nat, i = .int .i64 j ∧ j ≤ M ∧ OwC w wr s7 (qhN o v D j)) (fun _ i _ => M - (numOf i).toNat)
  case atStart => exact ⟨0, rfl, by omega, OwC.nil w⟩
  case round =>
    obtain ⟨j, rfl, hj, hO⟩ := hrel
    have HO := hid hO
    have HLJ := hid (HLN.out j hj)
    obtain ⟨av, cv, rfl, hrv⟩ := rdc_of_owns hO.own (HOK.out j)
    by_cases hgo : j < M
    · have e1 : decide ((j : Int) < M) = true := decide_eq_true (by omega)
      have e2 : (j : Int) < M := by omega
      have C1 := hid (qat_any a n c o wr (HR.out.on HO.out.bel) j (by omega))
      have C2 := hid (qat_any a' n' c' v wr (HR'.out.on HO.out.bel) j (by omega))
      have HS := hid (qhN_succ o v D j)
      have HPL := hid (HLO.out j)
      have HV1 : Hid (∀ y ∈ (o[j]?).toList, (vrc y).Ok) := fun y hy => HVO.out y (opt_mem hy)
      have HV2 : Hid (∀ y ∈ (v[j]?).toList, (vrc y).Ok) := fun y hy => HVV.out y (opt_mem hy)
      have hne : o[j]? ≠ none ∨ v[j]? ≠ none := by
        rcases Nat.lt_or_ge j n with h1 | h1
        · exact .inl (by rw [List.getElem?_eq_getElem (by rw [HL.out]; exact h1)]; simp)
        · exact .inr (by rw [List.getElem?_eq_getElem (by rw [HL'.out]; have := HM.out; omega)]; simp)
      generalize o[j]? = oj at C1 HS HPL HV1 hne
      generalize v[j]? = vj at C2 HS HPL HV2 hne
      generalize qhN o v D j = A0 at HO HLJ HS
      have C3 : Hid (∀ a3 a4, RdM 6 wr a3 oj.toList.length oj.toList.length oj.toList → RdM 6 wr a4 vj.toList.length vj.toList.length vj.toList → Calls Try.prog 15 #[.slice a3 oj.toList.length oj.toList.length, .slice a4 vj.toList.length vj.toList.length] wr fun e w' => e = .returned (.bool (decide (oj = vj))) ∧ ∃ q, w' = wr.drewN q) := fun a3 a4 h3 h4 => qsame_any a3 a4 oj vj wr h3 h4 hne
      clear hO hrv
      by_cases hsm : oj = vj
      · subst hsm
        rw [show decide (oj = oj) = true by simp] at C3
        cases oj with
        | none => simp at hne
        | some y =>
          rw [qhp_same] at HS HPL
          have HY := hid (HV2.out y (by simp))
          have HX := HR'.out.size
          clear hne HV1 HV2
          go_wp2_with fail
          refine C1.out.mono ?_
          rintro e u1 ⟨⟨a3, rfl, h3⟩, rfl⟩
          have H3 := hid h3
          clear h3
          go_wp2_with fail
          refine C2.out.mono ?_
          rintro e u2 ⟨⟨a4, rfl, h4⟩, rfl⟩
          have H4 := hid h4
          clear h4 C1 C2
          go_wp2_with fail
          refine (C3.out a3 a4 H3.out H4.out).mono ?_
          rintro e u3 ⟨rfl, q, rfl⟩
          have HO3 := hid (HO.out.on (below_drewN (Below.refl _ _) q))
          have h4 := H4.out.drewN q
          clear C3 H3 H4 HO
          obtain ⟨b4, off4, z0, z1, z2, z3, z4, z5, rfl, hb4, hy4, d0, d1, d2, d3, d4, d5⟩ := RdM.el6 (j := 0) h4 (show 0 < 1 by decide)
          simp only [Option.toList_some, List.getElem?_cons_zero, Option.some.injEq] at hy4
          subst hy4
          rw [Nat.zero_mul, Nat.add_zero] at d0 d1 d2 d3 d4 d5
          have CD := hid (qdamaged_any z0 z1 z2 z3 z4 z5 HY.out a2 n2 c2 ds _ (HD.out.on HO3.out.bel) hnd HDN.out)
          rw [HDM.out] at CD
          generalize (if dck (vrc [z0, z1, z2, z3, z4, z5]) = true then qdm [z0, z1, z2, z3, z4, z5] D else []) = B0 at CD HS HPL
          clear h4 HY
          go_wp2_with fail
          refine CD.out.mono ?_
          rintro e w5 ⟨a5, c5, rfl, h5, hb5⟩
          have HO5 := hid (HO3.out.on hb5)
          have HSR := hid (h5.src (P := Try.prog) (t := 30) (e := 36) Try.underlying30)
          clear h5 hb5 HO3 CD d0 d1 d2 d3 d4 d5
          go_wp2_with (at_builtin; refine wpList_append_own_src _ rfl (.tmp 28) (.tmp 33) 30 30 rfl w.heap.size 36 i0 (.agg #[.int .i64 0, .int .i64 0, .int .i64 0, .int .i64 0]) 4 32 Try.underlying30 hi hz0 hz1 hz2 rfl _ _ _ rfl HO5.out.own _ B0.length _ rfl HSR.out (by have h1 := HLJ.out; have h2 := HPL.out; simp only [maxLen]; omega) (fits32 (by have h1 := HLJ.out; have h2 := HPL.out; omega)) HO5.out.size ?_; intro v6 w6 o6 g6; have HO6 := hid (HO5.out.grown (m := B0) o6 g6); clear o6 g6)
          go_roundw
          case rel => exact ⟨j + 1, by go_num, by omega, by rw [HS.out]; exact HO6.out⟩
          case measure => simp [numOf]; omega
      · rw [show decide (oj = vj) = false by simpa using hsm] at C3
        rw [qhp_diff hsm] at HS HPL
        have hpos : 0 < oj.toList.length + vj.toList.length := by
          rcases hne with h1 | h1
          · cases oj with
            | none => exact absurd rfl h1
            | some y =>
              rw [Option.toList_some, List.length_singleton]
              omega
          · cases vj with
            | none => exact absurd rfl h1
            | some y =>
              rw [Option.toList_some, List.length_singleton]
              omega
        have hl1 : oj.toList.length ≤ 1 := by cases oj <;> simp
        have hl2 : vj.toList.length ≤ 1 := by cases vj <;> simp
        have HVA : Hid (∀ y ∈ oj.toList ++ vj.toList, (vrc y).Ok) := fun y hy => by
          rcases List.mem_append.1 hy with hy | hy
          · exact HV1.out y hy
          · exact HV2.out y hy
        clear hne HV1 HV2 hsm
        generalize oj.toList = ol at *
        generalize vj.toList = vl at *
        go_wp2_with fail
        refine C1.out.mono ?_
        rintro e u1 ⟨⟨a3, rfl, h3⟩, rfl⟩
        have H3 := hid h3
        clear h3
        go_wp2_with fail
        refine C2.out.mono ?_
        rintro e u2 ⟨⟨a4, rfl, h4⟩, rfl⟩
        have H4 := hid h4
        clear h4 C1 C2
        go_wp2_with fail
        refine (C3.out a3 a4 H3.out H4.out).mono ?_
        rintro e u3 ⟨rfl, q, rfl⟩
        have HO3 := hid (HO.out.on (below_drewN (Below.refl _ _) q))
        have H3' := hid (H3.out.drewN q)
        have H4' := hid (H4.out.drewN q)
        clear C3 H3 H4 HO
        go_wp2_with (at_builtin; refine wpList_append_full _ rfl (.tmp 36) (.tmp 37) 22 22 rfl 40 40 i1 (.agg #[.int .i64 0, .int .i64 0, .int .i64 0, .int .i64 0, .int .i64 0, .int .i64 0]) 6 48 Try.underlying22 Try.underlying22 hj1 hy0 hy1 hy2 rfl a3 ol.length ol rfl H3'.out a4 vl.length vl.length vl rfl H4'.out hpos (by simp only [maxLen]; omega) (fits48 (by omega) (by omega)) ?_; intro a6 c6 w6 hr6 hb6; have HR6 := hid hr6; have HO6 := hid (HO3.out.on hb6); clear hr6 hb6)
        clear H3' H4' HO3
        go_wp2_with fail
        refine (qplaces_any a6 _ c6 (ol ++ vl) _ HR6.out HVA.out (by omega)).mono ?_
        rintro e w7 ⟨a7, c7, rfl, h7, hb7⟩
        have HO7 := hid (HO6.out.on hb7)
        have HSR := hid (h7.src (P := Try.prog) (t := 30) (e := 36) Try.underlying30)
        generalize (ol ++ vl).map vrc = B0 at HSR HS HPL h7
        clear h7 hb7 HO6 HR6
        go_wp2_with (at_builtin; refine wpList_append_own_src _ rfl (.tmp 35) (.tmp 39) 30 30 rfl w.heap.size 36 i0 (.agg #[.int .i64 0, .int .i64 0, .int .i64 0, .int .i64 0]) 4 32 Try.underlying30 hi hz0 hz1 hz2 rfl _ _ _ rfl HO7.out.own _ B0.length _ rfl HSR.out (by have h1 := HLJ.out; have h2 := HPL.out; simp only [maxLen]; omega) (fits32 (by have h1 := HLJ.out; have h2 := HPL.out; omega)) HO7.out.size ?_; intro v8 w8 o8 g8; have HO8 := hid (HO7.out.grown (m := B0) o8 g8); clear o8 g8)
        go_roundw
        case rel => exact ⟨j + 1, by go_num, by omega, by rw [HS.out]; exact HO8.out⟩
        case measure => simp [numOf]; omega
    · have e1 : decide ((j : Int) < M) = false := decide_eq_false (by omega)
      obtain rfl : j = M := by omega
      have HB := hid hO.bel
      have CF := hid (HFL.out av cv _ wr hrv)
      rw [HE.out] at CF
      clear hO hrv HO HLJ
      go_wp2_with fail
      refine CF.out.mono ?_
      rintro e w9 ⟨a9, c9, rfl, h9, hb9⟩
      have H9 := hid h9
      have HB9 := hid (Below.on HB.out hb9)
      clear h9 hb9
      go_wp2
      go_ret
      exact ⟨a9, c9, rfl, H9.out, HB9.out⟩
end Go.Proofs.Ytlkodgmnhphfcaa
