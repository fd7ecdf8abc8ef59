/- Repaint: the contracts of the program's damaged and Changed. -/
import Derived.Test.YtlkodgmnhphfcaaRpF
namespace Go.Proofs.Ytlkodgmnhphfcaa
open Go Go.RowKit

/-- What the program has of damaged surfaces. -/
def qdm (y : List Int) (D : List (Int × List Rc)) : List Rc := D.flatMap fun d => if d.1 = nm5 0 y then d.2.map (spt y) else []
theorem qdm_ok {y : List Int} {D : List (Int × List Rc)} : ∀ r ∈ qdm y D, r.Ok := fun r hr => by
  obtain ⟨d, _, hr⟩ := List.mem_flatMap.1 hr
  split at hr
  · obtain ⟨x, _, rfl⟩ := List.mem_map.1 hr
    exact spt_ok y x
  · cases hr
theorem qdm_len {y : List Int} {M : Nat} : ∀ {D : List (Int × List Rc)}, (∀ d ∈ D, d.2.length ≤ M) → (qdm y D).length ≤ D.length * M
  | [], _ => by simp [qdm]
  | d :: D, h => by
    have h1 := qdm_len (y := y) (D := D) fun e he => h e (by simp [he])
    have h2 := h d (by simp)
    rw [qdm, List.flatMap_cons, List.length_append, List.length_cons, Nat.add_mul, Nat.one_mul]
    have h3 : (if d.1 = nm5 0 y then d.2.map (spt y) else []).length ≤ d.2.length := by
      split
      · rw [List.length_map]; exact Nat.le_refl _
      · exact Nat.zero_le _
    rw [qdm] at h1
    omega
theorem qdm_snoc {y : List Int} {D : List (Int × List Rc)} {j : Nat} {d : Int × List Rc} (h : D[j]? = some d) : qdm y (D.take (j + 1)) = qdm y (D.take j) ++ (if d.1 = nm5 0 y then d.2.map (spt y) else []) := fmap_snoc h

set_option maxRecDepth 100000 in
set_option maxHeartbeats 4000000 in
theorem qdamaged_any (z0 z1 z2 z3 z4 z5 : Int) (ok : (vrc [z0, z1, z2, z3, z4, z5]).Ok) (a : Option Addr) (n c : Nat) (ds : List Dv) (w : World) (h : RdD w a n c ds) (hn : n ≤ 1000) (hd : ∀ d ∈ ds, d.n ≤ 1000) :
    Calls Try.prog 16 #[.agg #[.int .i64 z0, .int .i64 z1, .int .i64 z2, .int .i64 z3, .int .i64 z4, .int .i64 z5], .slice a n c] w (Ret w (if dck (vrc [z0, z1, z2, z3, z4, z5]) = true then qdm [z0, z1, z2, z3, z4, z5] (ds.map ddl) else [])) := by
  obtain ⟨i0, hi, hz0, hz1, hz2⟩ := info3 infoC
  have HR := hid h
  have HL := hid h.len
  have hs := h.small
  have CC := hid (fun u => check_any (vrc [z0, z1, z2, z3, z4, z5]) ok u)
  rw [chk_dck ok] at CC
  rw [show vrc [z0, z1, z2, z3, z4, z5] = ⟨z2, z3, z4, z5⟩ from rfl] at CC ⊢
  have HV := hid (bk_new w #[.int .i64 z0, .int .i64 z1, .int .i64 z2, .int .i64 z3, .int .i64 z4, .int .i64 z5] 40)
  have HA := hid (bel_new w (.cells #[.int .i64 z0, .int .i64 z1, .int .i64 z2, .int .i64 z3, .int .i64 z4, .int .i64 z5] 40))
  cases hk : dck ⟨z2, z3, z4, z5⟩ with
  | false =>
    rw [hk] at CC
    rw [if_neg (by decide)]
    clear hk h
    go_enter Try.func16, Try.ntmps16
    go_wp2_with fail
    refine (qplace_any z0 z1 z2 z3 z4 z5 _).mono ?_
    rintro e w1 ⟨rfl, hb1⟩
    have HB1 := hid (Below.on HA.out hb1)
    clear hb1 HV HA
    go_wp2_with fail
    refine (CC.out _).mono ?_
    rintro e w2 ⟨rfl, hb2⟩
    have HB2 := hid (Below.on HB1.out hb2)
    clear hb2 HB1 CC
    go_wp2
    go_ret
    exact ⟨none, 0, rfl, RdC.nil _, HB2.out⟩
  | true =>
    rw [hk] at CC
    rw [if_pos rfl]
    have k : Ck (vrc [z0, z1, z2, z3, z4, z5]) := dck_iff.1 hk
    obtain ⟨y, hy⟩ : ∃ y, [z0, z1, z2, z3, z4, z5] = y := ⟨_, rfl⟩
    have e0 : nm5 0 y = z0 := by rw [← hy]; rfl
    have CS : Hid (∀ a n c l u, RdC u a n c l → n ≤ 1000000 → Calls Try.prog 27 #[.agg #[.int .i64 z0, .int .i64 z1, .int .i64 z2, .int .i64 z3, .int .i64 z4, .int .i64 z5], .slice a n c] u (Ret u (l.map (spt y)))) := fun a n c l u h1 h2 => by
      rw [← hy]
      exact qseen_any z0 z1 z2 z3 z4 z5 k a n c l u h1 h2
    rw [hy]
    have HOK : Hid (∀ j : Nat, ∀ r ∈ qdm y ((ds.map ddl).take j), r.Ok) := fun j => qdm_ok
    have HLN : Hid (∀ j : Nat, j ≤ n → (qdm y ((ds.map ddl).take j)).length ≤ 1000000) := fun j hj => by
      have h1 := qdm_len (y := y) (M := 1000) (D := (ds.map ddl).take j) fun d hd' => by
        obtain ⟨x, hx, rfl⟩ := List.mem_map.1 (List.mem_of_mem_take hd')
        have := hd x hx
        have := (h.ok x hx).rc.len
        show x.l.length ≤ 1000
        omega
      have h2 : ((ds.map ddl).take j).length ≤ 1000 := by rw [List.length_take, List.length_map, h.len]; omega
      have h3 := Nat.mul_le_mul_right 1000 h2
      omega
    have HDN := hid hd
    clear hk h k hy hd
    go_enter Try.func16, Try.ntmps16
    go_wp2_with fail
    refine (qplace_any z0 z1 z2 z3 z4 z5 _).mono ?_
    rintro e w1 ⟨rfl, hb1⟩
    have HB1 := hid (Below.on HA.out hb1)
    have HV1 := hid (HV.out.on hb1)
    clear hb1 HV HA
    go_wp2_with fail
    refine (CC.out _).mono ?_
    rintro e w2 ⟨rfl, hb2⟩
    have HB2 := hid (Below.on HB1.out hb2)
    have HV2 := hid (HV1.out.on hb2)
    clear hb2 HB1 HV1 CC
    go_wp2
    go_loopw [5, 14] (fun v i wr => ∃ j : Nat, i = .int .i64 j ∧ j ≤ n ∧ OwC w2 wr v (qdm y ((ds.map ddl).take j))) (fun _ i _ => n - (numOf i).toNat)
    case atStart => exact ⟨0, rfl, by omega, OwC.nil w2⟩
    case round =>
      obtain ⟨j, rfl, hj, hO⟩ := hrel
      have HO := hid hO
      have HLJ := hid (HLN.out j hj)
      obtain ⟨av, cv, rfl, _⟩ := rdc_of_owns hO.own (HOK.out j)
      clear hO
      by_cases hgo : j < n
      · have e1 : decide ((j : Int) < n) = true := decide_eq_true (by omega)
        have e2 : (j : Int) < n := by omega
        obtain ⟨b, off, d, rfl, hb, hr, ok, d0, d1⟩ := ((HR.out.on HB2.out).on HO.out.bel).el hgo
        have hdn := HDN.out d (List.mem_of_getElem? hr)
        have hrm : (ds.map ddl)[j]? = some (ddl d) := by rw [List.getElem?_map, hr]; rfl
        have HS1 : Hid (d.s = z0 → qdm y ((ds.map ddl).take (j + 1)) = qdm y ((ds.map ddl).take j) ++ d.l.map (spt y)) := fun h => by
          rw [qdm_snoc hrm, if_pos (show (ddl d).1 = nm5 0 y by rw [e0]; exact h)]
          rfl
        have HS0 : Hid (d.s ≠ z0 → qdm y ((ds.map ddl).take (j + 1)) = qdm y ((ds.map ddl).take j)) := fun h => by
          rw [qdm_snoc hrm, if_neg (show ¬ (ddl d).1 = nm5 0 y by rw [e0]; exact h), List.append_nil]
        have HOKN := hid (HOK.out (j + 1))
        have hbA := bel_new wr (.cells #[.int .i64 d.s, .slice d.a d.n d.c] 38)
        have HA := hid hbA
        have HD := hid ok.rc
        have hv0 := (HV2.out.on HO.out.bel).cell 0
        have HV0 := hid hv0
        obtain ⟨s, da, dn, dc, dl⟩ := d
        dsimp only at d0 d1 HA HD HS1 HS0 hdn
        generalize qdm y ((ds.map ddl).take j) = A0 at HO HS1 HS0 HLJ
        have hdl := HD.out.len
        clear hr hrm ok hbA hv0 HV0
        by_cases hse : s = z0
        · have HS := hid (HS1.out hse)
          clear HS1 HS0
          subst hse
          have t1 : (s == s) = true := by simp
          have t2 : (decide (s = s)) = true := by simp
          have vv := HV2.out.on HO.out.bel
          have q0 := vv.cell 0
          have q1 := vv.cell 1
          have q2 := vv.cell 2
          have q3 := vv.cell 3
          have q4 := vv.cell 4
          have q5 := vv.cell 5
          have ql := vv.lt
          clear vv
          have CS2 := hid (CS.out da dn dc dl _ (HD.out.on HA.out) (by omega))
          have HO2 := hid (HO.out.on HA.out)
          clear HO HD HA
          go_wp2_with fail
          refine CS2.out.mono ?_
          rintro e w4 ⟨a4, c4, rfl, h4, hb4⟩
          have HO3 := hid (HO2.out.on hb4)
          have HSR := hid (h4.src (P := Try.prog) (t := 30) (e := 36) Try.underlying30)
          have HLM : Hid ((dl.map (spt y)).length = dn) := by rw [Hid, List.length_map]; exact hdl
          generalize dl.map (spt y) = M at HSR HLM HS h4
          clear h4 hb4 HO2 CS2 d0 d1 q0 q1 q2 q3 q4 q5
          go_wp2_with (at_builtin; refine wpList_append_own_src _ rfl (.tmp 23) (.tmp 27) 30 30 rfl w2.heap.size 36 i0 (.agg #[.int .i64 0, .int .i64 0, .int .i64 0, .int .i64 0]) 4 32 Try.underlying30 hi hz0 hz1 hz2 rfl _ _ _ rfl HO3.out.own _ M.length _ rfl HSR.out (by have h1 := HLJ.out; have h2 := HLM.out; simp only [maxLen]; omega) (fits32 (by have h1 := HLJ.out; have h2 := HLM.out; omega)) HO3.out.size ?_; intro v5 w5 o5 g5; have HO5 := hid (HO3.out.grown (m := M) o5 g5); clear o5 g5)
          go_roundw
          case rel => exact ⟨j + 1, by go_num, by omega, by rw [HS.out]; exact HO5.out⟩
          case measure => simp [numOf]; omega
        · have t1 : (s == z0) = false := by simpa using hse
          have t2 : (decide (s = z0)) = false := by simpa using hse
          have HS := hid (HS0.out hse)
          clear HS1 HS0
          have vv := HV2.out.on HO.out.bel
          have q0 := vv.cell 0
          have ql := vv.lt
          clear vv
          have HO2 := hid (HO.out.on HA.out)
          clear HO HD HA
          go_wp2
          go_roundw
          case rel => exact ⟨j + 1, by go_num, by omega, by rw [HS.out]; exact HO2.out⟩
          case measure => simp [numOf]; omega
      · have e1 : decide ((j : Int) < n) = false := decide_eq_false (by omega)
        have HE : Hid ((ds.map ddl).take j = ds.map ddl) := List.take_of_length_le (by rw [List.length_map, HL.out]; omega)
        have hF := (HO.out.base HB2.out).ret (HOK.out j)
        rw [HE.out] at hF
        have HF := hid hF
        rw [HE.out]
        clear hF
        go_wp2
        go_ret
        exact HF.out
end Go.Proofs.Ytlkodgmnhphfcaa
