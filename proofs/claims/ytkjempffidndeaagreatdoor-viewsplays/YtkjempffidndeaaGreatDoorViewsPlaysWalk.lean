/- ViewsPlays: what is seen, and where input comes, is what the document says; nothing that was there has turned. Written by views/mk_plays.py. -/
import Derived.Test.YtkjempffidndeaaGreatDoorVwN
import Derived.Test.YtkjempffidndeaaGreatDoorVwL
namespace Go.Proofs.YtkjempffidndeaaGreatDoor.viewsPlays
open Go Go.RowKit

theorem fnd_first {k : Int} {l : List (List Int)} {j : Nat} {y : List Int} (hj : l[j]? = some y) (hk : hd y = k) (h : ∀ (i : Nat) (y : List Int), i < j → l[i]? = some y → hd y ≠ k) : fnd k l = some y := by
  induction l generalizing j with
  | nil => simp at hj
  | cons x l ih =>
    cases j with
    | zero =>
      simp only [List.getElem?_cons_zero, Option.some.injEq] at hj
      subst hj
      rw [fnd, if_pos hk]
    | succ j =>
      rw [fnd, if_neg (h 0 x (by omega) rfl)]
      exact ih (by simpa using hj) fun i y hi hy => h (i + 1) y (by omega) (by simpa using hy)
theorem fnd_never {k : Int} {l : List (List Int)} (h : ∀ (i : Nat) (y : List Int), i < l.length → l[i]? = some y → hd y ≠ k) : fnd k l = none := by
  induction l with
  | nil => rfl
  | cons x l ih =>
    rw [fnd, if_neg (h 0 x (by simp) rfl)]
    exact ih fun i y hi hy => h (i + 1) y (by simp; omega) (by simpa using hy)
theorem infoCC : (Tryz.prog.info? 46).map (fun i => (i.zero, i.size, i.bytes)) = some (some (.agg #[.int .i64 0, .int .i64 0, .int .i64 0]), 3, 24) := by kernel_rfl

set_option maxRecDepth 100000 in
set_option maxHeartbeats 4000000 in
theorem core (a : Option Addr) (n c : Nat) (a1 : Option Addr) (n1 c1 : Nat) (rs : List (List Int)) (a2 : Option Addr) (n2 c2 : Nat) (zs : List (List Int)) (a3 : Option Addr) (n3 c3 : Nat) (l : List (List Int)) (id : Int) (w : World) (hr : RdQ w a n c)
    (h1 : RdM 3 w a1 n1 c1 rs) (hb1 : ∀ r ∈ rs, ∀ z ∈ r, Bt z) (h2 : RdM 3 w a2 n2 c2 zs) (h3 : RdM 6 w a3 n3 c3 l) (hb3 : ∀ y ∈ l, Bt (nm 0 y)) (hid0 : Bt id) (es : List Addr) (hE : Errs w gerrs es) :
    Calls Tryz.prog 3 #[.slice a n c, .slice a1 n1 c1, .slice a2 n2 c2, .slice a3 n3 c3, .int .i64 id] w fun e w' => e = .returned (.bool true) ∧ Below w.heap.size w w' := by
  have hs1 := h1.small
  have hs2 := h2.small
  have hs3 := h3.small
  obtain ⟨i0, hi, hi0, hi1, hi2⟩ := infoMP infoCC
  have CP := hid (play_any a n c w hr es hE)
  have AW : Hid (∀ W, RowKit.Below w.heap.size w W → Calls Tryz.prog 7 #[] W fun e w' => e = .returned (.bool true) ∧ RowKit.Below W.heap.size W w') := fun W hW => vawake_any W (fe_of (hE.below hW)) (Nat.le_trans (ng_of hE) hW.size)
  have H1 := hid h1
  have HB1 := hid hb1
  have H2 := hid h2
  have H3 := hid h3
  have HB3 := hid hb3
  have HID := hid hid0
  clear hr h1 hb1 h2 h3 hb3 hid0 hE
  go_enter Tryz.func3, Tryz.ntmps3
  go_wp2_with fail
  refine CP.out.mono ?_
  rintro e W1 ⟨p, q, F, ok, rfl, hB⟩
  have HB := hid hB
  have HBL := hid hB.bel
  clear hB CP
  have away : (ok = false ∨ (ok = true ∧ ¬ n1 ≤ 12) ∨ (ok = true ∧ n1 ≤ 12 ∧ ¬ n2 ≤ 30) ∨ (ok = true ∧ n1 ≤ 12 ∧ n2 ≤ 30 ∧ ¬ n3 ≤ 30)) ∨ (ok = true ∧ n1 ≤ 12 ∧ n2 ≤ 30 ∧ n3 ≤ 30) := by
    cases ok
    · exact .inl (.inl rfl)
    · have : (¬ n1 ≤ 12 ∨ (n1 ≤ 12 ∧ ¬ n2 ≤ 30) ∨ (n1 ≤ 12 ∧ n2 ≤ 30 ∧ ¬ n3 ≤ 30)) ∨ (n1 ≤ 12 ∧ n2 ≤ 30 ∧ n3 ≤ 30) := by omega
      simpa using this
  rcases away with h | ⟨rfl, hn1, hn2, hn3⟩
  · have CA := hid (AW.out W1 HBL.out)
    clear H1 H2 H3 HB1 HB3
    rcases h with rfl | ⟨rfl, hn⟩ | ⟨rfl, hn1, hn⟩ | ⟨rfl, hn1, hn2, hn⟩
    · skip
      go_wp2_with fail
      refine CA.out.mono ?_
      rintro e W2 ⟨rfl, hb2⟩
      have HF := hid (Below.on HBL.out hb2)
      clear hb2 CA
      go_wp2
      go_ret
      exact ⟨rfl, HF.out⟩
    · have e1 : decide ((12 : Int) < (n1 : Int)) = true := decide_eq_true (by omega)
      go_wp2_with fail
      refine CA.out.mono ?_
      rintro e W2 ⟨rfl, hb2⟩
      have HF := hid (Below.on HBL.out hb2)
      clear hb2 CA
      go_wp2
      go_ret
      exact ⟨rfl, HF.out⟩
    · have e1 : decide ((12 : Int) < (n1 : Int)) = false := decide_eq_false (by omega)
      have e2 : decide ((30 : Int) < (n2 : Int)) = true := decide_eq_true (by omega)
      go_wp2_with fail
      refine CA.out.mono ?_
      rintro e W2 ⟨rfl, hb2⟩
      have HF := hid (Below.on HBL.out hb2)
      clear hb2 CA
      go_wp2
      go_ret
      exact ⟨rfl, HF.out⟩
    · have e1 : decide ((12 : Int) < (n1 : Int)) = false := decide_eq_false (by omega)
      have e2 : decide ((30 : Int) < (n2 : Int)) = false := decide_eq_false (by omega)
      have e3 : decide ((30 : Int) < (n3 : Int)) = true := decide_eq_true (by omega)
      go_wp2_with fail
      refine CA.out.mono ?_
      rintro e W2 ⟨rfl, hb2⟩
      have HF := hid (Below.on HBL.out hb2)
      clear hb2 CA
      go_wp2
      go_ret
      exact ⟨rfl, HF.out⟩
  · have e1 : decide ((12 : Int) < (n1 : Int)) = false := decide_eq_false (by omega)
    have e2 : decide ((30 : Int) < (n2 : Int)) = false := decide_eq_false (by omega)
    have e3 : decide ((30 : Int) < (n3 : Int)) = false := decide_eq_false (by omega)
    have HO := hid (World.ownsRow_nil W1 W1.heap.size 46 3)
    have HS1 := hid ((H1.out.on HBL.out).src (P := Tryz.prog) (t := 23) (e := 46) Tryz.underlying23)
    go_wp2_with (at_builtin; refine wpList_append_own_src _ rfl (.const (.slice none 0 0)) (.tmp 43) 23 23 rfl W1.heap.size 46 i0 (.agg #[.int .i64 0, .int .i64 0, .int .i64 0]) 3 24 Tryz.underlying23 hi hi0 hi1 hi2 rfl _ _ _ rfl HO.out _ _ _ rfl HS1.out (by simp only [maxLen]; omega) (fitsM (by omega) (by decide)) (Nat.le_refl _) ?_; intro v5 w5 o5 g5; rw [Nat.zero_add, List.nil_append] at o5; obtain ⟨a5, c5, rfl⟩ := own_shp o5; replace g5 : W1.grownBy w5 (Value.slice none 0 0).ownBlock := g5; have HB5 := hid ((kp_of_grown g5).below (Nat.le_refl _) (fun k hk => by cases hk)); have HO5 := hid o5; clear o5 g5)
    refine (sizes_any a2 n2 c2 zs w5 (H2.out.on (Below.on HBL.out HB5.out)) hn2).mono ?_
    rintro e W3 ⟨v6, rfl, hO6⟩
    obtain ⟨a6, c6, rfl, hr6, -⟩ := hO6.rd
    have hrr : RdM 3 w5 a5 n1 c5 rs := by
      obtain ⟨a7, c7, he7, hr7, -⟩ := (⟨by rw [H1.out.len]; exact HO5.out, HB5.out, H1.out.size⟩ : OwM 3 46 W1 w5 (.slice a5 n1 c5) rs).rd
      rw [H1.out.len] at he7 hr7
      simp only [Value.slice.injEq, true_and] at he7
      obtain ⟨rfl, rfl⟩ := he7
      exact hr7
    have hb3 := Below.on HB5.out hO6.bel
    have CO := hid (vof_any (HB.out.on hb3).pg (by omega) a5 n1 c5 rs (hrr.on hO6.bel) HB1.out (by omega) a6 _ c6 zs hr6)
    have HC3 := hid hb3
    clear hr6 hO6 hb3 hrr HO5 HB5 HS1 HO
    go_wp2_with fail
    refine CO.out.mono ?_
    rintro e W4 ⟨v4, rfl, hO4⟩
    obtain ⟨A, hA⟩ : ∃ A, A = ofL F zs rs := ⟨_, rfl⟩
    rw [← hA] at hO4
    obtain ⟨aA, cA, rfl, hrA, -⟩ := hO4.rd
    have hb4 := Below.on HC3.out hO4.bel
    have HBA : Hid (∀ y ∈ A, Bt (nm 0 y)) := fun y hy => by
      rw [hA] at hy
      obtain ⟨x, hx, rfl⟩ := List.mem_map.1 hy
      obtain ⟨r, _, hxr⟩ := List.mem_flatMap.1 hx
      obtain ⟨z, hz, rfl⟩ := List.mem_map.1 hxr
      obtain ⟨s, hs, _⟩ := wlk_buf _ _ _ _ z hz
      exact HB.out.pg.ok.bof.keys _ (gt_keys hs)
    have hlA : A.length ≤ 480 := by
      have h5 := snL_len HB.out.pg.ok.inv HB.out.pg.ok.nof rs
      rw [H1.out.len] at h5
      rw [hA, ofL, List.length_map]
      omega
    obtain ⟨NA, hNA⟩ : ∃ NA, NA = A.length := ⟨_, rfl⟩
    rw [← hNA] at hrA hlA
    obtain ⟨Z, hZ⟩ := (HB.out.on hb4).dq
    have CR := hid (rof_any hZ a1 n1 c1 rs (H1.out.on (Below.on HBL.out hb4)) HB1.out (by omega) a2 n2 c2 zs (H2.out.on (Below.on HBL.out hb4)))
    rw [← hA] at CR
    have HRA := hid hrA
    have HC4 := hid hb4
    rw [← hNA]
    have HNA := hid hNA
    clear hrA hO4 hA hb4 hZ hNA CO HC3
    go_wp2_with fail
    refine CR.out.mono ?_
    rintro e W5 ⟨v5, rfl, hO5⟩
    obtain ⟨aB, cB, rfl, hrB, -⟩ := hO5.rd
    rw [← HNA.out] at hrB ⊢
    have CS := hid (sameviews_any aA aB NA cA NA cB A A W5 (HRA.out.on hO5.bel) hrB)
    rw [leqs_same] at CS
    have HRA5 := hid (HRA.out.on hO5.bel)
    have HC5 := hid (Below.on HC4.out hO5.bel)
    clear hrB hO5 CR HRA
    go_wp2_with fail
    refine CS.out.mono ?_
    rintro e W6 ⟨rfl, q6, hw6⟩
    have hb6 : RowKit.Below W5.heap.size W5 W6 := by rw [hw6]; exact below_drewN (Below.refl _ _) q6
    have HC6 := hid (Below.on HC5.out hb6)
    have C7 := hid (vsame_any (HB.out.on HC6.out) (by omega) aA NA cA A (HRA5.out.on hb6) HBA.out (by omega))
    clear hb6 hw6 CS HC5
    go_wp2_with fail
    refine C7.out.mono ?_
    rintro e W7 ⟨rfl, hb7⟩
    have HC7 := hid (Below.on HC6.out hb7)
    have C8 := hid (vsame_any (HB.out.on HC7.out) (by omega) a3 n3 c3 l (H3.out.on (Below.on HBL.out HC7.out)) HB3.out (by omega))
    clear hb7 C7 HC6
    go_wp2_with fail
    refine C8.out.mono ?_
    rintro e W8 ⟨rfl, hb8⟩
    have HC8 := hid (Below.on HC7.out hb8)
    have C9 := hid (vroot_any (HB.out.on HC8.out).pg id HID.out)
    obtain ⟨R, hR⟩ : ∃ R, R = rtF F id := ⟨_, rfl⟩
    rw [← hR] at C9
    have HR := hid hR
    clear hb8 C8 HC7 hR
    go_wp2_with fail
    refine C9.out.mono ?_
    rintro e W9 ⟨rfl, hb9⟩
    have HC9 := hid (Below.on HC8.out hb9)
    obtain ⟨Z9, hZ9⟩ := (HB.out.on HC9.out).dq
    have C10 := hid (rroot_any hZ9 id)
    rw [← HR.out] at C10
    have hRR : (R != R) = false := by simp
    clear hb9 C9 HC8 hZ9
    go_wp2_with fail
    refine C10.out.mono ?_
    rintro e WR ⟨rfl, hwR⟩
    obtain rfl : W9 = WR := hwR.symm
    have h3w := H3.out.on (Below.on HBL.out HC9.out)
    have CF := hid (vfind_any a3 n3 c3 l id W9 h3w)
    clear C10 h3w
    go_wp2_with fail
    refine CF.out.mono ?_
    rintro e WF ⟨z0, z1, z2, z3, z4, z5, rfl, hfz, hbF⟩
    obtain ⟨sb, hsb⟩ : ∃ sb, sb = (fnd id l).isSome := ⟨_, rfl⟩
    rw [← hsb]
    obtain ⟨WG, hWG⟩ : ∃ WG, WG = WF.alloc (.cells #[.int .i64 z0, .int .i64 z1, .int .i64 z2, .int .i64 z3, .int .i64 z4, .int .i64 z5] 40) := ⟨_, rfl⟩
    have hbG : RowKit.Below WF.heap.size WF WG := by rw [hWG]; exact bel_new _ _
    have hkG : Bk WG WF.heap.size 40 #[.int .i64 z0, .int .i64 z1, .int .i64 z2, .int .i64 z3, .int .i64 z4, .int .i64 z5] := by rw [hWG]; exact bk_new _ _ _
    have HFZ := hid hfz
    have HSB := hid hsb
    have HCG := hid (Below.on HBL.out (Below.on HC9.out (Below.on hbF hbG)))
    have HKG := hid hkG
    have HWG := hid hWG
    have HL3 := hid H3.out.len
    have HLT : WF.heap.size < WG.heap.size := hkG.lt
    clear hfz hsb hbF hbG hkG hWG CF hRR HR
    go_upto_block 0 with fail
    rw [← HWG.out]
    go_wp2
    go_loopw [17] (fun i wr => ∃ j : Nat, i = .int .i64 j ∧ j ≤ n3 ∧ (∀ (i : Nat) (y : List Int), i < j → l[i]? = some y → hd y ≠ id) ∧ wr = WG) (fun i _ => n3 - (numOf i).toNat)
    case atStart => exact ⟨0, rfl, by omega, (fun i y h => absurd h (by omega)), rfl⟩
    case round =>
      obtain ⟨j, rfl, hj, hN, hwr⟩ := hrel
      obtain rfl : WG = wr := hwr.symm
      have HN := hid hN
      clear hN
      by_cases hgo : j < n3
      · have e4 : decide ((j : Int) < n3) = true := decide_eq_true (by omega)
        have e5 : (j : Int) < n3 := by omega
        obtain ⟨b, off, y0, y1, y2, y3, y4, y5, rfl, hlb, hy, d0, d1, d2, d3, d4, d5⟩ := (H3.out.on HCG.out).el6 hgo
        cases hq : (y0 == id)
        · have HN2 : Hid (∀ (i : Nat) (y : List Int), i < j + 1 → l[i]? = some y → hd y ≠ id) := fun i y hi hy2 => by
            rcases Nat.lt_or_ge i j with h | h
            · exact HN.out i y h hy2
            · obtain rfl : i = j := by omega
              rw [hy] at hy2
              cases hy2
              show y0 ≠ id
              simpa using hq
          clear hy
          go_wp2
          go_roundw
          case rel => exact ⟨j + 1, by go_num, by omega, HN2.out, trivial⟩
          case measure => simp [numOf]; omega
        · have hfd : fnd id l = some [y0, y1, y2, y3, y4, y5] := fnd_first hy (show hd [y0, y1, y2, y3, y4, y5] = id from (by simpa using hq : y0 = id)) HN.out
          have hsb := HSB.out
          rw [hfd] at hsb
          obtain rfl : sb = true := hsb
          have hzz := HFZ.out
          rw [fnz, hfd] at hzz
          simp only [List.cons.injEq, and_true] at hzz
          obtain ⟨rfl, rfl, rfl, rfl, rfl, rfl⟩ := hzz
          have hlb' := hlb
          have p0 := HKG.out.cell 0
          have p1 := HKG.out.cell 1
          have p2 := HKG.out.cell 2
          have p3 := HKG.out.cell 3
          have p4 := HKG.out.cell 4
          have p5 := HKG.out.cell 5
          have HEQ : Hid (leq [y0, y1, y2, y3, y4, y5] [y0, y1, y2, y3, y4, y5] = true) := decide_eq_true rfl
          clear hy hfd
          go_upto_region 12 with fail
          refine wp_region_held_drew (S := fun uu => RowKit.Below WG.heap.size WG uu) (by kernel_rfl) ?hh (fun hHeld => ?_)
          case hh => exact ((Below.refl _ _).drew)
          generalize World.drew _ = W0 at hHeld ⊢
          try dsimp only at hHeld
          refine wpAnyH_take (i := 0) (v := ?_) rfl (by kernel_rfl) (by kernel_rfl) (by kernel_rfl) (fun _ _ _ h => h) (Or.inl ⟨by kernel_rfl, ?hy0⟩) (by assumption) ?_
          case hy0 => (intro wI hSw; (try dsimp only at hSw); go_simp; try with_reducible rfl)
          try simp only [Act.put, List.getElem_toArray, List.getElem_cons_zero, List.setIfInBounds_toArray, List.set_cons_zero, List.set_cons_succ]
          refine wpAnyH_take (i := 1) (v := ?_) rfl (by kernel_rfl) (by kernel_rfl) (by kernel_rfl) (fun _ _ _ h => h) (Or.inl ⟨by kernel_rfl, ?hy1⟩) (by assumption) ?_
          case hy1 => (intro wI hSw; (try dsimp only at hSw); go_simp; try with_reducible rfl)
          try simp only [Act.put, List.getElem_toArray, List.getElem_cons_zero, List.getElem_cons_succ, List.setIfInBounds_toArray, List.set_cons_zero, List.set_cons_succ]
          refine wpAnyH_take (i := 2) (v := ?_) rfl (by kernel_rfl) (by kernel_rfl) (by kernel_rfl) (fun _ _ _ h => h) (Or.inl ⟨by kernel_rfl, ?hy2⟩) (by assumption) ?_
          case hy2 => (intro wI hSw; (try dsimp only at hSw); have m0 := (hSw.cell HLT).trans p0; have m1 := (hSw.cell HLT).trans p1; have m2 := (hSw.cell HLT).trans p2; have m3 := (hSw.cell HLT).trans p3; have m4 := (hSw.cell HLT).trans p4; have m5 := (hSw.cell HLT).trans p5; go_simp; try with_reducible rfl)
          try simp only [Act.put, List.getElem_toArray, List.getElem_cons_zero, List.getElem_cons_succ, List.setIfInBounds_toArray, List.set_cons_zero, List.set_cons_succ]
          refine wpAnyH_take (i := 3) (v := ?_) rfl (by kernel_rfl) (by kernel_rfl) (by kernel_rfl) (fun _ _ _ h => h) (Or.inl ⟨by kernel_rfl, ?hy3⟩) (by assumption) ?_
          case hy3 => (intro wI hSw; (try dsimp only at hSw); go_simp; try with_reducible rfl)
          try simp only [Act.put, List.getElem_toArray, List.getElem_cons_zero, List.getElem_cons_succ, List.setIfInBounds_toArray, List.set_cons_zero, List.set_cons_succ]
          refine wpAnyH_take (i := 4) (v := ?_) rfl (by kernel_rfl) (by kernel_rfl) (by kernel_rfl) (fun _ _ _ h => h) (Or.inl ⟨by kernel_rfl, ?hy4⟩) (by assumption) ?_
          case hy4 => (intro wI hSw; (try dsimp only at hSw); go_simp; try with_reducible rfl)
          try simp only [Act.put, List.getElem_toArray, List.getElem_cons_zero, List.getElem_cons_succ, List.setIfInBounds_toArray, List.set_cons_zero, List.set_cons_succ]
          refine wpAnyH_take (i := 5) (v := ?_) rfl (by kernel_rfl) (by kernel_rfl) (by kernel_rfl) (fun _ _ _ h => h) (Or.inl ⟨by kernel_rfl, ?hy5⟩) (by assumption) ?_
          case hy5 => (intro wI hSw; (try dsimp only at hSw); go_simp; try with_reducible rfl)
          try simp only [Act.put, List.getElem_toArray, List.getElem_cons_zero, List.getElem_cons_succ, List.setIfInBounds_toArray, List.set_cons_zero, List.set_cons_succ]
          refine wpAnyH_take (i := 6) (v := ?_) rfl (by kernel_rfl) (by kernel_rfl) (by kernel_rfl) (fun _ _ _ h => h) (Or.inl ⟨by kernel_rfl, ?hy6⟩) (by assumption) ?_
          case hy6 => (intro wI hSw; (try dsimp only at hSw); have k0 := (hSw.cell hlb').trans d0; have k1 := (hSw.cell hlb').trans d1; have k2 := (hSw.cell hlb').trans d2; have k3 := (hSw.cell hlb').trans d3; have k4 := (hSw.cell hlb').trans d4; have k5 := (hSw.cell hlb').trans d5; go_simp; try with_reducible rfl)
          try simp only [Act.put, List.getElem_toArray, List.getElem_cons_zero, List.getElem_cons_succ, List.setIfInBounds_toArray, List.set_cons_zero, List.set_cons_succ]
          refine wpAnyH_take (i := 7) (v := ?_) rfl (by kernel_rfl) (by kernel_rfl) (by kernel_rfl) (fun _ _ _ h => h) (Or.inl ⟨by kernel_rfl, ?hy7⟩) (by assumption) ?_
          case hy7 => (intro wI hSw; (try dsimp only at hSw); have hg := eqlM6_guard; have he := eqlM6 y0 y1 y2 y3 y4 y5 y0 y1 y2 y3 y4 y5 wI; rw [HEQ.out] at he; go_simp; try with_reducible rfl)
          try simp only [Act.put, List.getElem_toArray, List.getElem_cons_zero, List.getElem_cons_succ, List.setIfInBounds_toArray, List.set_cons_zero, List.set_cons_succ]
          refine wpAnyH_take (i := 8) (v := ?_) rfl (by kernel_rfl) (by kernel_rfl) (by kernel_rfl) (fun _ _ _ h => h) (Or.inl ⟨by kernel_rfl, ?hy8⟩) (by assumption) ?_
          case hy8 => (intro wI hSw; (try dsimp only at hSw); go_simp; try with_reducible rfl)
          try simp only [Act.put, List.getElem_toArray, List.getElem_cons_zero, List.getElem_cons_succ, List.setIfInBounds_toArray, List.set_cons_zero, List.set_cons_succ]
          refine wpAnyH_take (i := 9) (v := ?_) rfl (by kernel_rfl) (by kernel_rfl) (by kernel_rfl) (fun _ _ _ h => h) (Or.inl ⟨by kernel_rfl, ?hy9⟩) (by assumption) ?_
          case hy9 => (intro wI hSw; (try dsimp only at hSw); go_simp; try with_reducible rfl)
          try simp only [Act.put, List.getElem_toArray, List.getElem_cons_zero, List.getElem_cons_succ, List.setIfInBounds_toArray, List.set_cons_zero, List.set_cons_succ]
          refine wpAnyH_ready (rs := [10]) (by kernel_rfl) (by simp) ?_
          refine AllReadyH.cons rfl (fun K hK => ?_) AllReadyH.nil
          go_simp
          go_wp2_with fail
          refine (AW.out _ (Below.on HCG.out hHeld)).mono ?_
          rintro e W10 ⟨rfl, hb11⟩
          have hH2 := Below.on hHeld hb11
          refine hK.out _ _ hH2 (fun _ => ?_)
          clear hK K hHeld hb11
          have hHeld := hH2
          try simp only [Act.put, List.getElem_toArray, List.getElem_cons_zero, List.getElem_cons_succ, List.setIfInBounds_toArray, List.set_cons_zero, List.set_cons_succ]
          refine wpAnyH_take (i := 11) (v := ?_) rfl (by kernel_rfl) (by kernel_rfl) (by kernel_rfl) (fun _ _ _ h => h) (Or.inl ⟨by kernel_rfl, ?hy11⟩) (by assumption) ?_
          case hy11 => (intro wI hSw; (try dsimp only at hSw); go_simp; try with_reducible rfl)
          try simp only [Act.put, List.getElem_toArray, List.getElem_cons_zero, List.getElem_cons_succ, List.setIfInBounds_toArray, List.set_cons_zero, List.set_cons_succ]
          refine wpAnyH_take (i := 12) (v := ?_) rfl (by kernel_rfl) (by kernel_rfl) (by kernel_rfl) (fun _ _ _ h => h) (Or.inl ⟨by kernel_rfl, ?hy12⟩) (by assumption) ?_
          case hy12 => (intro wI hSw; (try dsimp only at hSw); go_simp; try with_reducible rfl)
          try simp only [Act.put, List.getElem_toArray, List.getElem_cons_zero, List.getElem_cons_succ, List.setIfInBounds_toArray, List.set_cons_zero, List.set_cons_succ]
          refine wpAnyH_done (by kernel_rfl) ?_ _
          go_wp2
          go_ret
          exact ⟨rfl, Below.on HCG.out hH2⟩
      · have e4 : decide ((j : Int) < n3) = false := decide_eq_false (by omega)
        have e5 : ¬ (j : Int) < n3 := by omega
        have hfd : fnd id l = none := fnd_never fun i y hi hy => HN.out i y (by rw [HL3.out] at hi; omega) hy
        have hsb := HSB.out
        rw [hfd] at hsb
        obtain rfl : sb = false := hsb
        have hzz := HFZ.out
        rw [fnz, hfd] at hzz
        simp only [List.replicate, List.cons.injEq, and_true] at hzz
        obtain ⟨rfl, rfl, rfl, rfl, rfl, rfl⟩ := hzz
        have p0 := HKG.out.cell 0
        have p1 := HKG.out.cell 1
        have p2 := HKG.out.cell 2
        have p3 := HKG.out.cell 3
        have p4 := HKG.out.cell 4
        have p5 := HKG.out.cell 5
        have hg := eqlM6_guard
        have he := eqlM6 0 0 0 0 0 0 0 0 0 0 0 0 WG
        rw [show leq [0, 0, 0, 0, 0, 0] [0, 0, 0, 0, 0, 0] = true from by decide] at he
        have CA := hid (AW.out WG HCG.out)
        clear hfd
        go_wp2_with fail
        refine CA.out.mono ?_
        rintro e W11 ⟨rfl, hb11⟩
        have HF := hid (Below.on HCG.out hb11)
        clear hb11 CA p0 p1 p2 p3 p4 p5
        go_wp2
        go_ret
        exact ⟨rfl, HF.out⟩

theorem walk (a : Option Addr) (n c : Nat) (a1 : Option Addr) (n1 c1 : Nat) (rs : List (List Int)) (a2 : Option Addr) (n2 c2 : Nat) (zs : List (List Int)) (a3 : Option Addr) (n3 c3 : Nat) (l : List (List Int)) (id : Int) (w : World) (hr : RdQ w a n c)
    (h1 : RdN 3 w a1 n1 c1 rs) (h2 : RdN 3 w a2 n2 c2 zs) (h3 : RdN 6 w a3 n3 c3 l) (hid : (Lit.int .i64 id).wf = true) (hL : laidMetH Tryz.prog Rows.viewsPlaysRow.laid w) :
    Calls Tryz.prog 3 #[.slice a n c, .slice a1 n1 c1, .slice a2 n2 c2, .slice a3 n3 c3, .int .i64 id] w fun e w' => e = .returned (.bool true) ∧ Below w.heap.size w w' := by
  obtain ⟨es, hE⟩ := errs16 hL
  refine core a n c a1 n1 c1 rs a2 n2 c2 zs a3 n3 c3 l id w hr (rdm_of_rdn (by omega) h1) (fun r hr z hz => i64_rangeQ (h1.wf r hr z hz)) (rdm_of_rdn (by omega) h2) (rdm_of_rdn (by omega) h3) (fun y hy => ?_) (i64_rangeQ hid) es hE
  have h6 := h3.size y hy
  match y, h6, hy with
  | z :: y, _, hy => exact i64_rangeQ (h3.wf _ hy z (by simp))
end Go.Proofs.YtkjempffidndeaaGreatDoor.viewsPlays
