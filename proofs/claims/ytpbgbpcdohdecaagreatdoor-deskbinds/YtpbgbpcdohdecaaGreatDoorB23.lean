/- Lemmas that the proof leans on. -/
import Derived.Test.YtpbgbpcdohdecaaGreatDoorB22
namespace Go.Proofs.YtpbgbpcdohdecaaGreatDoor
open Go Go.RowKit
set_option maxRecDepth 100000
set_option maxHeartbeats 4000000
section
theorem pfst_fn (k : Int) (w : World) (q : Nat) (hq : w.cell? ⟨q, 0, none⟩ = some (.int .i64 k)) (b0 b1 b2 : Int) (a : Option Addr) (n c : Nat) (u : World) (hu : Below w.heap.size w u) :
  Calls Tryz.prog 66 (#[.agg #[.int .i64 b0, .int .i64 b1, .int .i64 b2, .slice a n c]] ++ #[.pointer (some ⟨q, 0, none⟩)]) u fun e w' => e = .returned (.bool (b0 == k)) ∧ Below u.heap.size u w' := by
 have hlt := World.block_lt_of_cell? w _ hq
 have hc : u.cell? ⟨q, 0, none⟩ = some (.int .i64 k) := by rw [hu.cell hlt]; exact hq
 have hb := bel_new u (.cells #[.int .i64 b0, .int .i64 b1, .int .i64 b2, .slice a n c] 103)
 have hc2 : (u.alloc (.cells #[.int .i64 b0, .int .i64 b1, .int .i64 b2, .slice a n c] 103)).cell? ⟨q, 0, none⟩ = some (.int .i64 k) := by rw [hb.cell (World.block_lt_of_cell? u _ hc)]; exact hc
 have HB := hid hb
 clear hb hu
 go_enter Tryz.func66, Tryz.ntmps66
 go_wp2
 go_ret
 exact ⟨rfl, HB.out⟩
theorem pfst_ix (a : Option Addr) (n c : Nat) (gs : List Gv) (k : Int) (q : Nat) (w : World) (h : RdG w a n c gs) (hq : w.cell? ⟨q, 0, none⟩ = some (.int .i64 k)) :
  Calls Tryz.prog 65 #[.slice a n c, .func (.func 66) #[] #[.pointer (some ⟨q, 0, none⟩)]] w fun e w' => IxR k gs e ∧ Below w.heap.size w w' := by
 have HL := hid h.len
 have hs := h.small
 have H := hid h
 have HP : Hid (∀ (b0 b1 b2 : Int) (a : Option Addr) (n c : Nat) (u : World), Below w.heap.size w u → Calls Tryz.prog 66 (#[.agg #[.int .i64 b0, .int .i64 b1, .int .i64 b2, .slice a n c]] ++ #[.pointer (some ⟨q, 0, none⟩)]) u fun e w' => e = .returned (.bool (b0 == k)) ∧ Below u.heap.size u w') := fun b0 b1 b2 a n c u hu => pfst_fn k w q hq b0 b1 b2 a n c u hu
 have eg := enters_of Tryz.func66 (by kernel_rfl) rfl
 clear h hq
 go_enter Tryz.func65, Tryz.ntmps65
 go_wp2
 go_loopw [8] (fun i wr => ∃ j : Nat, i = .int .i64 j ∧ j ≤ n ∧ (∀ i x, i < j → gs[i]? = some x → x.b ≠ k) ∧ RowKit.Below w.heap.size w wr) (fun i _ => n - (numOf i).toNat)
 case atStart => exact ⟨0, rfl, by omega, fun k r hk => absurd hk (by omega), Below.refl _ _⟩
 case round =>
  obtain ⟨j, rfl, hj, hN, hb⟩ := hrel
  have HN := hid hN
  have HB := hid hb
  clear hN hb
  by_cases hgo : j < n
  ·have e1 : decide ((j : Int) < n) = true := decide_eq_true (by omega)
   obtain ⟨b, off, g, rfl, _, hr, _, c0, c1, c2, c3⟩ := (H.out.on HB.out).el hgo
   obtain ⟨g0, g1, g2, ga, gn, gc, gl⟩ := g
   dsimp only at c0 c1 c2 c3
   have CP := hid (HP.out g0 g1 g2 ga gn gc wr HB.out)
   have HR := hid hr
   have e3 : (j : Int) < n := by omega
   clear hr
   cases hq : (g0 == k)
   ·rw [hq] at CP
    have HN2 : Hid (∀ i x, i < j + 1 → gs[i]? = some x → x.b ≠ k) := fun i x hi hx => by
     rcases Nat.lt_or_ge i j with h | h
     ·exact HN.out i x h hx
     ·obtain rfl : i = j := by omega
      rw [HR.out] at hx
      cases hx
      show g0 ≠ k
      simpa using hq
    clear hq
    go_wp2_with fail
    refine CP.out.mono ?_
    rintro e w2 ⟨rfl, hb2⟩
    have HB2 := hid (Below.on HB.out hb2)
    clear hb2
    go_wp2
    go_roundw
    case rel => exact ⟨j + 1, by go_num, by omega, HN2.out, HB2.out⟩
    case measure => simp [numOf]; omega
   ·rw [hq] at CP
    have HI : Hid (IxR k gs (.returned (.int .i64 j))) := .inr ⟨j, _, rfl, HR.out, gf_at HN.out HR.out (show g0 = k by simpa using hq)⟩
    clear hq
    go_wp2_with fail
    refine CP.out.mono ?_
    rintro e w2 ⟨rfl, hb2⟩
    have HB2 := hid (Below.on HB.out hb2)
    clear hb2
    go_wp2
    go_ret
    exact ⟨HI.out, HB2.out⟩
  ·have e1 : decide ((j : Int) < n) = false := decide_eq_false (by omega)
   have HI : Hid (IxR k gs (.returned (.int .i64 (-1)))) := .inl ⟨rfl, gf_none fun i x hx => HN.out i x (by
    have := (List.getElem?_eq_some_iff.1 hx).1
    have := HL.out
    omega) hx⟩
   go_wp2
   go_ret
   exact ⟨HI.out, HB.out⟩
theorem info_pim : (Tryz.prog.info? 103).map (·.size) = some 4 := by kernel_rfl
theorem pfirst_any (a : Option Addr) (n c : Nat) (gs : List Gv) (k : Int) (w : World) (h : RdG w a n c gs) :
  Calls Tryz.prog 37 #[.slice a n c, .int .i64 k] w fun e w' => e = .returned (fdv (gf k gs)) ∧ Below w.heap.size w w' := by
 have hs := h.small
 have hb0 := bel_new w (.cells #[.int .i64 k] 3)
 have hb := Below.on hb0 (bel_new _ (.cells #[.int .i64 0, .int .i64 0, .int .i64 0, .slice none 0 0] 103))
 have h1 := h.on hb
 have HQ := ((bk_new w #[.int .i64 k] 3).on (bel_new _ (.cells #[.int .i64 0, .int .i64 0, .int .i64 0, .slice none 0 0] 103))).cell 0
 have CI := hid (pfst_ix a n c gs k w.heap.size _ h1 HQ)
 have HK : Hid (Bk ((w.alloc (.cells #[.int .i64 k] 3)).alloc (.cells #[.int .i64 0, .int .i64 0, .int .i64 0, .slice none 0 0] 103)) (w.heap.size + 1) 103 #[.int .i64 0, .int .i64 0, .int .i64 0, .slice none 0 0]) := by
  have := bk_new (w.alloc (.cells #[.int .i64 k] 3)) #[.int .i64 0, .int .i64 0, .int .i64 0, .slice none 0 0] 103
  rwa [size_new] at this
 have HB := hid hb
 have HG := hid h1
 clear HQ hb0 h h1 hb
 have hmf : ∀ (fn : Fn) (first cap : Array Value) (w : World), (Instr.makeFunc fn first cap).run Tryz.prog w = .ok (.func fn first cap) w := fun _ _ _ _ => rfl
 go_enter Tryz.func37, Tryz.ntmps37
 go_wp2_with fail
 refine CI.out.mono ?_
 rintro e w2 ⟨hI, hb2⟩
 have HB2 := hid (Below.on HB.out hb2)
 have HK2 := hid (HK.out.on hb2)
 have f0 := HK2.out.fz
 have c0 := HK2.out.cell 0
 have c1 := HK2.out.cell 1
 have c2 := HK2.out.cell 2
 have c3 := HK2.out.cell 3
 have HG2 := hid (HG.out.on hb2)
 have HBF : Hid (∀ v0 v1 v2 v3, Below w.heap.size w ((((w2.setCell ⟨w.heap.size + 1, 0, none⟩ v0).setCell ⟨w.heap.size + 1, 1, none⟩ v1).setCell ⟨w.heap.size + 1, 2, none⟩ v2).setCell ⟨w.heap.size + 1, 3, none⟩ v3)) := fun v0 v1 v2 v3 => (((HB2.out.setCell (p := ⟨w.heap.size + 1, 0, none⟩) (by show w.heap.size ≤ w.heap.size + 1; omega) _).setCell (p := ⟨w.heap.size + 1, 1, none⟩) (by show w.heap.size ≤ w.heap.size + 1; omega) _).setCell (p := ⟨w.heap.size + 1, 2, none⟩) (by show w.heap.size ≤ w.heap.size + 1; omega) _).setCell (p := ⟨w.heap.size + 1, 3, none⟩) (by show w.heap.size ≤ w.heap.size + 1; omega) _
 clear hb2 HG HK HB CI
 rcases hI with ⟨rfl, h0⟩ | ⟨j, g, rfl, hj, hg⟩
 ·have HF : Hid (fdv (gf k gs) = .tuple #[.agg #[.int .i64 0, .int .i64 0, .int .i64 0, .slice none 0 0], .bool false]) := by rw [Hid, h0]; rfl
  clear h0
  go_wp2
  refine bodyPost_ret (results_cell_tmp' rfl _ _ (w.heap.size + 1) _ _ _ _ rfl ((((HK2.out.set 0 _).set 1 _).set 2 _).set 3 _).obj Tryz.underlying103 rfl info_pim) rfl ?_
  rw [HF.out]
  exact ⟨rfl, HBF.out _ _ _ _⟩
 ·have hin : j < n := by rw [← HG2.out.len]; exact (List.getElem?_eq_some_iff.1 hj).1
  obtain ⟨b, off, g', rfl, _, hr, _, d0, d1, d2, d3⟩ := HG2.out.el hin
  rw [hj] at hr
  cases hr
  obtain ⟨g0, g1, g2, ga, gn, gc, gl⟩ := g
  dsimp only at d0 d1 d2 d3
  have HF : Hid (fdv (gf k gs) = .tuple #[.agg #[.int .i64 g0, .int .i64 g1, .int .i64 g2, .slice ga gn gc], .bool true]) := by rw [Hid, hg]; rfl
  have e1 : (j : Int) < n := by omega
  have e2 : (0 : Int) ≤ j := by omega
  clear hg hj
  go_wp2
  refine bodyPost_ret (results_cell_tmp' rfl _ _ (w.heap.size + 1) _ _ _ _ rfl ((((HK2.out.set 0 _).set 1 _).set 2 _).set 3 _).obj Tryz.underlying103 rfl info_pim) rfl ?_
  rw [HF.out]
  exact ⟨rfl, HBF.out _ _ _ _⟩
end
section
variable {w w' : World} {p b W H : Nat} {L : List Int}
theorem take_snoc_PtD {α : Type} {l : List α} {k : Nat} {y : α} (h : l[k]? = some y) : l.take (k + 1) = l.take k ++ [y] := by
 obtain ⟨hk, rfl⟩ := List.getElem?_eq_some_iff.1 h
 exact List.take_succ_eq_append_getElem hk
theorem foldl_step {W : Nat} {l : List Rc} {I : List Im} {V : List (List Int)} {j : Nat} {y : List Int} (h : V[j]? = some y) (L : List Int) : (V.take (j + 1)).foldl (ptc W l I) L = ptc W l I ((V.take j).foldl (ptc W l I) L) y := by
 rw [take_snoc_PtD h, List.foldl_append]
 rfl
theorem ara_okk (hW : 1 ≤ W ∧ W ≤ 48) (hH : 1 ≤ H ∧ H ≤ 48) : (ara W H).Ok := (ara_ck hW hH).ok
theorem ptc_some {W : Nat} {l : List Rc} {gs : List Gv} {L y : List Int} {g : Gv} (h : gf (nm5 1 y) gs = some g) : ptc W l (gs.map gcl) L y = drw W (nm5 2 y) (nm5 3 y) g.w g.h g.l l L := by
 rw [ptc, gf_imf, h]
 rfl
theorem ptc_none {W : Nat} {l : List Rc} {gs : List Gv} {L y : List Int} (h : gf (nm5 1 y) gs = none) : ptc W l (gs.map gcl) L y = L := by
 rw [ptc, gf_imf, h]
 rfl
theorem pall_any (h : Cv 91 w p b W H L) (v : Int) (hv : Col v) (a : Option Addr) (n c : Nat) (V : List (List Int)) (hr : RdM 6 w a n c V) (hVi : ∀ y ∈ V, ∀ z ∈ y, I64_RectA z) (hrb : 0 < n → ∀ x, a = some x → x.block ≠ b)
  (a' : Option Addr) (n' c' : Nat) (gs : List Gv) (hg : RdG w a' n' c' gs) (hga : GAp [b] a' n' gs) (hgn : ∀ g ∈ gs, g.n ≤ 20000) :
  Calls Tryz.prog 19 #[.pointer (some ⟨p, 0, none⟩), .int .u32 v, .slice a n c, .slice a' n' c'] w fun e w' => e = .returned (.tuple #[]) ∧ Cv 91 w' p b W H (pnc W v [ara W H] V (gs.map gcl) L) ∧ Kp [b] w w' := by
 have hs := hr.small
 have hs' := hg.small
 have HL := hid hr.len
 have hlt := h.lt
 have HWH := hid (And.intro h.hW h.hH)
 have HC := hid h
 have HR := hid hr
 have HG := hid hg
 have HGA := hid hga
 have HVI := hid hVi
 have HGN := hid hgn
 have HRB := hid hrb
 have HNO : Hid (∀ (wr : World) M, Cv 91 wr p b W H M → ∀ i z, wr.cell? ⟨b, i, none⟩ ≠ some (.int .i64 z)) := fun wr M hC i z hz => hC.no64 hz
 have CS := hid (csize_any h)
 obtain ⟨P, hP⟩ : ∃ P, P = pnc W v [ara W H] V (gs.map gcl) L := ⟨_, rfl⟩
 have HP : Hid (P = V.foldl (ptc W [ara W H] (gs.map gcl)) (fll W v [ara W H] L)) := hP
 rw [← hP]
 clear h hr hg hga hVi hgn hP hrb
 go_enter Tryz.func19, Tryz.ntmps19
 go_wp2_with fail
 refine CS.out.mono ?_
 rintro e w1 ⟨rfl, hb1⟩
 have HB1 := hid hb1
 clear hb1 CS
 go_wp2_with fail
 have hb2 := bel_new w1 (.cells #[.int .i64 0, .int .i64 0, .int .i64 (W : Nat), .int .i64 (H : Nat)] 97)
 have HB2 := hid (Below.on HB1.out hb2)
 have HE2 : Hid (RdC (w1.alloc (.cells #[.int .i64 0, .int .i64 0, .int .i64 (W : Nat), .int .i64 (H : Nat)] 97)) (some ⟨w1.heap.size, 0, none⟩) 1 1 [ara W H]) := rdc_lit w1 (ara W H) (ara_okk HWH.out.1 HWH.out.2)
 have hE : b ≠ w1.heap.size := by have := HB1.out.size; omega
 refine (cfill_any (HC.out.on HB2.out) v hv _ 1 1 [ara W H] HE2.out (by omega)).mono ?_
 rintro e w3 ⟨rfl, hC3, hk3⟩
 have HC3 := hid hC3
 have HK3 := hid ((kp_of_below HB2.out [b]).trans hk3 (fun k hk _ => hk))
 have HE3 := hid (HE2.out.kept hk3 (HNO.out _ _ (HC.out.on HB2.out)))
 have HBW : Hid (w1.heap.size < w3.heap.size) := by
  have h1 := hk3.size
  rw [size_new] at h1
  have : w1.heap.size < w3.heap.size := by omega
  exact this
 clear hC3 hk3 hb2 HB2 HE2 HB1
 obtain ⟨q, hq⟩ : ∃ q, w1.heap.size = q := ⟨_, rfl⟩
 rw [hq] at HE3 hE HBW ⊢
 clear hq
 go_wp2
 go_loopw [30] (fun i wr => ∃ j : Nat, i = .int .i64 j ∧ j ≤ n ∧ Cv 91 wr p b W H ((V.take j).foldl (ptc W [ara W H] (gs.map gcl)) (fll W v [ara W H] L)) ∧ Kp [b] w wr ∧ RdC wr (some ⟨q, 0, none⟩) 1 1 [ara W H]) (fun i _ => n - (numOf i).toNat)
 case atStart => exact ⟨0, rfl, by omega, HC3.out, HK3.out, HE3.out⟩
 case round =>
  obtain ⟨j, rfl, hj, hC, hK, hE4⟩ := hrel
  have HC4 := hid hC
  have HK4 := hid hK
  have HE4 := hid hE4
  clear hC hK hE4 HC3 HK3 HE3
  obtain ⟨M, hM⟩ : ∃ M, M = (V.take j).foldl (ptc W [ara W H] (gs.map gcl)) (fll W v [ara W H] L) := ⟨_, rfl⟩
  rw [← hM] at HC4
  have HM := hid hM
  clear hM
  by_cases hgo : j < n
  ·have e1 : decide ((j : Int) < n) = true := decide_eq_true (by omega)
   have e2 : (j : Int) < n := by omega
   obtain ⟨b1, o1, z0, z1, z2, z3, z4, z5, rfl, hb1, hy, d0, d1, d2, d3, d4, d5⟩ := (HR.out.kp HK4.out (fun x hx hn => by simpa using HRB.out hn x hx)).el6 hgo
   have HY := hid hy
   have hi2 : I64_RectA z2 := HVI.out _ (List.mem_of_getElem? hy) z2 (by simp)
   have hi3 : I64_RectA z3 := HVI.out _ (List.mem_of_getElem? hy) z3 (by simp)
   have hA := bel_new wr (.cells #[.int .i64 z0, .int .i64 z1, .int .i64 z2, .int .i64 z3, .int .i64 z4, .int .i64 z5] 101)
   have HA := hid hA
   have HV := hid (bk_new wr #[.int .i64 z0, .int .i64 z1, .int .i64 z2, .int .i64 z3, .int .i64 z4, .int .i64 z5] 101)
   have HG4 := hid ((HG.out.kp HK4.out HGA.out).on hA)
   have CF := hid (pfirst_any a' n' c' gs z1 _ HG4.out)
   have HST : Hid ((V.take (j + 1)).foldl (ptc W [ara W H] (gs.map gcl)) (fll W v [ara W H] L) = ptc W [ara W H] (gs.map gcl) M [z0, z1, z2, z3, z4, z5]) := by rw [Hid, foldl_step hy, ← HM.out]
   clear hA hy
   cases hgf : gf z1 gs with
   | none =>
    rw [hgf] at CF
    have HN : Hid ((V.take (j + 1)).foldl (ptc W [ara W H] (gs.map gcl)) (fll W v [ara W H] L) = M) := by rw [Hid, HST.out, ptc_none (show gf (nm5 1 [z0, z1, z2, z3, z4, z5]) gs = none from hgf)]
    rw [show fdv none = .tuple #[.agg #[.int .i64 0, .int .i64 0, .int .i64 0, .slice none 0 0], .bool false] from rfl] at CF
    clear hgf
    go_wp2_with fail
    refine CF.out.mono ?_
    rintro e w5 ⟨rfl, hb5⟩
    have hB5 := Below.on (Below.on HA.out hb5) (bel_new w5 (.cells #[.int .i64 0, .int .i64 0, .int .i64 0, .slice none 0 0] 103))
    have HC5 := hid (HC4.out.on hB5)
    have HK5 := hid (HK4.out.trans (kp_of_below hB5 []) (by simp))
    have HE5 := hid (HE4.out.on hB5)
    rw [← HN.out] at HC5
    clear hb5 hB5 HC4 HK4 HE4
    go_wp2
    go_roundw
    case rel => exact ⟨j + 1, by go_num, by omega, HC5.out, HK5.out, HE5.out⟩
    case measure => simp [numOf]; omega
   | some g =>
    rw [hgf] at CF
    have hgm := gf_mem hgf
    have hgl := HGN.out g hgm
    have HN : Hid ((V.take (j + 1)).foldl (ptc W [ara W H] (gs.map gcl)) (fll W v [ara W H] L) = drw W z2 z3 g.w g.h g.l [ara W H] M) := by
     rw [Hid, HST.out, ptc_some (show gf (nm5 1 [z0, z1, z2, z3, z4, z5]) gs = some g from hgf)]
     rfl
    have HGO := hid (HG4.out.ok g hgm)
    have hgap := HGA.out.px g hgm
    obtain ⟨g0, g1, g2, ga, gn, gc, gl⟩ := g
    dsimp only at hgl HN hgap
    rw [show fdv (some ⟨g0, g1, g2, ga, gn, gc, gl⟩) = .tuple #[.agg #[.int .i64 g0, .int .i64 g1, .int .i64 g2, .slice ga gn gc], .bool true] from rfl] at CF
    clear hgf hgm
    go_wp2_with fail
    refine CF.out.mono ?_
    rintro e w5 ⟨rfl, hb5⟩
    have hX := bel_new w5 (.cells #[.int .i64 g0, .int .i64 g1, .int .i64 g2, .slice ga gn gc] 103)
    have hI := bk_new w5 #[.int .i64 g0, .int .i64 g1, .int .i64 g2, .slice ga gn gc] 103
    have hB5 := Below.on (Below.on HA.out hb5) hX
    have hV5 := (HV.out.on hb5).on hX
    have HC5 := hid (HC4.out.on hB5)
    have HK5 := hid (HK4.out.trans (kp_of_below hB5 []) (by simp))
    have HE5 := hid (HE4.out.on hB5)
    have hp5 := (HGO.out.px.on hb5).on hX
    have q2 := hV5.cell 2
    have q3 := hV5.cell 3
    have i1 := hI.cell 1
    have i2 := hI.cell 2
    have i3 := hI.cell 3
    have CD := hid (cdraw_any HC5.out z2 z3 g1 g2 hi2 hi3 HGO.out.kw HGO.out.kh ga gn gc gl hp5 hgl (fun hn x hx => by simpa using hgap hn x hx) (some ⟨q, 0, none⟩) 1 1 [ara W H] HE5.out (by omega))
    rw [← HN.out] at CD
    clear hb5 hX hI hB5 hV5 hp5 hgap HC4 HK4 HE4 HST HN HV HA CF
    go_wp2_with fail
    refine CD.out.mono ?_
    rintro e w6 ⟨rfl, hC6, hk6⟩
    have HC6 := hid hC6
    have HK6 := hid (HK5.out.trans hk6 (fun k hk _ => hk))
    have HE6 := hid (HE5.out.kept hk6 (HNO.out _ _ HC5.out))
    clear hC6 hk6 HC5 HK5 HE5 CD
    go_wp2
    go_roundw
    case rel => exact ⟨j + 1, by go_num, by omega, HC6.out, HK6.out, HE6.out⟩
    case measure => simp [numOf]; omega
  ·have e1 : decide ((j : Int) < n) = false := decide_eq_false (by omega)
   have HF : Hid (M = P) := by
    rw [Hid, HP.out, HM.out, List.take_of_length_le (by rw [HL.out]; omega)]
   rw [HF.out] at HC4
   go_wp2
   go_end0
   exact ⟨rfl, HC4.out, HK4.out⟩
end
section
section
variable {w0 w w' : World} {p W H : Nat} {X : List Nat} {L : List Int}
def Tc (w0 : World) (p W H : Nat) (L : List Int) : Th := fun w X => RowKit.Below w0.heap.size w0 w ∧ ∃ b, Cv 91 w p b W H L ∧ w0.heap.size ≤ p ∧ w0.heap.size ≤ b ∧ X = [p, b]
theorem tc_ft (w0 : World) (p W H : Nat) (L : List Int) : Ft w0.heap.size (Tc w0 p W H L) := by
 refine ⟨fun {w X} h g hg => ?_, fun {w w' X Y} h hk hY hX => ?_⟩
 ·obtain ⟨_, b, h1, h2, h3, rfl⟩ := h
  simp only [List.mem_cons, List.not_mem_nil, or_false] at hg
  rcases hg with rfl | rfl
  ·exact ⟨h2, h1.lt.1⟩
  ·exact ⟨h3, h1.lt.2⟩
 ·obtain ⟨h0, b, h1, h2, h3, rfl⟩ := h
  exact ⟨h0.trans (hk.below h0.size hY), b, h1.kept hk (hX p (by simp)) (hX b (by simp)), h2, h3, rfl⟩
theorem tc_nx {b : Nat} {M : List Int} (h0 : RowKit.Below w0.heap.size w0 w) (h2 : w0.heap.size ≤ p) (h3 : w0.heap.size ≤ b) (h : Cv 91 w' p b W H M) (hk : Kp [b] w w') : Nx (Tc w0 p W H M) [p, b] w w' :=
 ⟨[p, b], ⟨h0.trans (hk.below h0.size (fun k hk => by rw [List.mem_singleton.1 hk]; exact h3)), b, h, h2, h3, rfl⟩, hk.mono (fun k hk _ => by rw [List.mem_singleton.1 hk]; simp), fun _ h => .inl h⟩
theorem tc_new (hb : RowKit.Below w0.heap.size w0 w) (hW : 1 ≤ W ∧ W ≤ 48) (hH : 1 ≤ H ∧ H ≤ 48) : Calls Tryz.prog 18 #[.int .i64 (W : Nat), .int .i64 (H : Nat)] w fun e w' => ∃ p X, e = .returned (.tuple #[.pointer (some ⟨p, 0, none⟩), .nilIface]) ∧ Tc w0 p W H (List.replicate (W * H) 0) w' X ∧ RowKit.Below w.heap.size w w' ∧ ∀ b ∈ X, w.heap.size ≤ b := by
 refine (cnew_any w W H hW hH).mono ?_
 rintro e w' ⟨p, b, h1, h2, h3, h4, h5⟩
 have hs := hb.size
 exact ⟨p, [p, b], h1, ⟨Below.on hb h2, b, h3, by omega, by omega, rfl⟩, h2, fun k hk => by
  simp only [List.mem_cons, List.not_mem_nil, or_false] at hk
  rcases hk with rfl | rfl
  ·exact h4
  ·exact h5⟩
theorem tc_all (h : Tc w0 p W H L w X) (v : Int) (hv : Col v) (a : Option Addr) (n c : Nat) (V : List (List Int)) (hr : RdM 6 w a n c V) (hVi : ∀ y ∈ V, ∀ z ∈ y, I64_RectA z) (hrb : 0 < n → ∀ x, a = some x → x.block ∉ X)
  (a' : Option Addr) (n' c' : Nat) (gs : List Gv) (hg : RdG w a' n' c' gs) (hga : GAp X a' n' gs) (hgn : ∀ g ∈ gs, g.n ≤ 20000) :
  Calls Tryz.prog 19 #[.pointer (some ⟨p, 0, none⟩), .int .u32 v, .slice a n c, .slice a' n' c'] w fun e w' => e = .returned (.tuple #[]) ∧ Nx (Tc w0 p W H (pnc W v [ara W H] V (gs.map gcl) L)) X w w' := by
 obtain ⟨h0, b, h1, h2, h3, rfl⟩ := h
 refine (pall_any h1 v hv a n c V hr hVi (fun hn x hx e => hrb hn x hx (by simp [e])) a' n' c' gs hg ⟨fun hn x hx hm => hga.row hn x hx (by rw [List.mem_singleton.1 hm]; simp), fun g hg hn x hx hm => hga.px g hg hn x hx (by rw [List.mem_singleton.1 hm]; simp)⟩ hgn).mono fun _ _ ⟨h4, h5, h6⟩ => ⟨h4, tc_nx h0 h2 h3 h5 h6⟩
end
end
section
structure Acy (F : Fo) : Prop where
 no : ∀ x s, gt F x = some s → ¬ Anc F s.par x
 par : ∀ x s, gt F x = some s → s.par ≠ 0 → ∃ q, gt F s.par = some q
def Kok (F : Fo) (x : Int) (s : Sf) : Prop := ∀ k, (k ∈ un1 s.pe.od ∨ k ∈ un1 s.ca.od ∨ k ∈ un1 s.no.od) → k ≠ 0 → ∃ c, gt F k = some c ∧ c.par = x
structure Inv (F : Fo) : Prop where
 nod : (keys F).Nodup
 pos : ∀ x ∈ keys F, 1 ≤ x
 len : F.length ≤ 40
 acy : Acy F
 kid : ∀ x s, gt F x = some s → Kok F x s
theorem inv_nil : Inv [] := ⟨List.nodup_nil, (fun _ h => by cases h), by decide, ⟨(fun _ _ h => by cases h), fun _ _ h => by cases h⟩, fun _ _ h => by cases h⟩
end
section
def Edg (y : List Int) : Prop := ∃ a b c, y = [a, b, c] ∧ -16777216 ≤ b ∧ b ≤ 16777216 ∧ -16777216 ≤ c ∧ c ≤ 16777216
structure Zs (m : Nat) (s : Sf) : Prop where
 dm : s.pe.dm.length + s.ca.dm.length + s.no.dm.length ≤ m
 fr : s.pe.fr.length + s.ca.fr.length + s.no.fr.length ≤ m
 pl : s.pe.pl.length + s.ca.pl.length + s.no.pl.length ≤ m
 od : s.pe.od.length ≤ m + 1 ∧ s.ca.od.length ≤ m + 1 ∧ s.no.od.length ≤ m + 1
 rg : s.pe.rg.length ≤ 20 ∧ s.ca.rg.length ≤ 20 ∧ s.no.rg.length ≤ 20
 ed : (∀ y ∈ s.pe.pl, Edg y) ∧ (∀ y ∈ s.ca.pl, Edg y) ∧ ∀ y ∈ s.no.pl, Edg y
theorem Zs.mono {m n : Nat} {s : Sf} (h : Zs m s) (hm : m ≤ n) : Zs n s := by
 obtain ⟨h1, h2, h3, h4, h5, h6⟩ := h
 exact ⟨by omega, by omega, by omega, by omega, h5, h6⟩
def Szf (m : Nat) (F : Fo) : Prop := ∀ x s, gt F x = some s → Zs m s
theorem Szf.mono {m n : Nat} {F : Fo} (h : Szf m F) (hm : m ≤ n) : Szf n F := fun x s hs => (h x s hs).mono hm
theorem szf_nil : Szf 0 [] := fun _ _ h => by cases h
end
section
theorem infoMP {P : Program} {e : TypeId} {z : Value} {n m : Nat} (h : (P.info? e).map (fun i => (i.zero, i.size, i.bytes)) = some (some z, n, m)) : ∃ i, P.info? e = some i ∧ i.zero = some z ∧ i.size = n ∧ i.bytes = m := by
 obtain ⟨i, hi, hz⟩ := Option.map_eq_some_iff.1 h
 simp only [Prod.mk.injEq] at hz
 exact ⟨i, hi, hz.1, hz.2.1, hz.2.2⟩
theorem fitsM {need b : Nat} (h : need ≤ 1000000000) (hb : b ≤ 32) : ∀ old, old < need → Builtin.nextslicecap need old * b ≤ 281474976710656 := fun old ho => by
 have h1 := nextslicecap_near ho
 have h2 : Builtin.nextslicecap need old * b ≤ Builtin.nextslicecap need old * 32 := Nat.mul_le_mul_left _ hb
 omega
theorem infoM1 : (Tryz.prog.info? 3).map (fun i => (i.zero, i.size, i.bytes)) = some (some (.int .i64 0), 1, 8) := by kernel_rfl
end
section
structure Sl where
 a : Option Addr
 n : Nat
 c : Nat
 l : List (List Int)
structure Sx where
 at_ : Bool
 buf : Int
 dm : Sl
 fr : Sl
 inp : Bool
 all : Bool
 rg : Sl
 ord : Bool
 od : Sl
 pl : Sl
def Sx.q (x : Sx) : Sq := ⟨x.at_, x.buf, x.dm.l, x.fr.l, x.inp, x.all, x.rg.l, x.ord, x.od.l, x.pl.l⟩
structure Sx.Ok (w : World) (x : Sx) : Prop where
 dm : RdM 4 w x.dm.a x.dm.n x.dm.c x.dm.l
 fr : RdM 1 w x.fr.a x.fr.n x.fr.c x.fr.l
 rg : RdM 4 w x.rg.a x.rg.n x.rg.c x.rg.l
 od : RdM 1 w x.od.a x.od.n x.od.c x.od.l
 pl : RdM 3 w x.pl.a x.pl.n x.pl.c x.pl.l
end
section
theorem rdm_off {m : Nat} {u : World} {s : Sl} {P : Nat} (h : RdM m u s.a s.n s.c s.l) (hP : u.heap.size ≤ P) : ∀ y, s.a = some y → 0 < s.n → y.block ≠ P := fun y hy hn => by
 obtain ⟨b, off, e, hlt, _⟩ := h.pl hn
 rw [hy] at e
 cases e
 show b ≠ P
 omega
end
section
structure Sr where
 par : Int
 syn : Bool
 pe : Sx
 ca : Sx
 no : Sx
def Sr.f (s : Sr) : Sf := ⟨s.par, s.syn, s.pe.q, s.ca.q, s.no.q⟩
def sxc (x : Sx) : List Value := [.bool x.at_, .int .i64 x.buf, .slice x.dm.a x.dm.n x.dm.c, .slice x.fr.a x.fr.n x.fr.c, .bool x.inp, .bool x.all, .slice x.rg.a x.rg.n x.rg.c, .bool x.ord, .slice x.od.a x.od.n x.od.c, .slice x.pl.a x.pl.n x.pl.c]
structure Sr.Ok (w : World) (s : Sr) : Prop where
 pe : s.pe.Ok w
 ca : s.ca.Ok w
 no : s.no.Ok w
end
section
structure Nos (s : Sf) : Prop where
 pe : (un1 s.pe.od).Nodup
 ca : (un1 s.ca.od).Nodup
 no : (un1 s.no.od).Nodup
def Nof (F : Fo) : Prop := ∀ x s, gt F x = some s → Nos s
theorem nof_nil : Nof [] := fun _ _ h => by cases h
end
section
def Bt (z : Int) : Prop := -9223372036854775808 ≤ z ∧ z ≤ 9223372036854775807
structure Bus (s : Sf) : Prop where
 pe : Bt s.pe.buf
 ca : Bt s.ca.buf
 no : Bt s.no.buf
structure Bof (F : Fo) : Prop where
 keys : ∀ x ∈ Go.Proofs.YtpbgbpcdohdecaaGreatDoor.keys F, Bt x
 bus : ∀ x s, gt F x = some s → Bus s
theorem bof_nil : Bof [] := ⟨(fun _ h => by cases h), (fun _ _ h => by cases h)⟩
end
section
structure Fok (m : Nat) (F : Fo) : Prop where
 inv : Inv F
 nof : Nof F
 szf : Szf m F
 bof : Bof F
theorem fok_nil : Fok 0 [] := ⟨inv_nil, nof_nil, szf_nil, bof_nil⟩
theorem Fok.mono {m n : Nat} {F : Fo} (h : Fok m F) (hm : m ≤ n) : Fok n F := ⟨h.inv, h.nof, h.szf.mono hm, h.bof⟩
variable {m : Nat} {F : Fo}
end
end Go.Proofs.YtpbgbpcdohdecaaGreatDoor
