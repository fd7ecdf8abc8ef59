/- The document's Feed, walked. -/
import Derived.Test.YtfbebifbfpkdaaaDoorRdrI
namespace Go.Proofs.YtfbebifbfpkdaaaDoor
open Go Go.RowKit

theorem rd_plain0 {w : World} {g o n c : Nat} {l : List UInt8} (h : Rd w (some ⟨g, o, none⟩) n c l) (hn : 0 < n) : ∀ j (hj : j < l.length), w.cell? ⟨g, o + j, none⟩ = some (.int .u8 (l[j].toNat : Int)) := by
  obtain ⟨b, off, e, _, hc⟩ := h.plain hn
  cases e
  exact hc

set_option maxRecDepth 100000 in
set_option maxHeartbeats 2000000 in
theorem rfeed_ok (base : Nat) (w : World) (p : Nat) (a : Option Addr) (n c : Nat) (l : List UInt8) (hD : Doc base w p a n c ⟨l, 0⟩) (ab : Option Addr) (nb cb : Nat) (b : List UInt8) (hr : Rd w ab nb cb b) (hn : l.length + nb ≤ 1000000) :
    Calls Tryd.prog 11 #[.pointer (some ⟨p, 0, none⟩), .slice ab nb cb] w fun e w' => ∃ r a' n' c', e = .returned (.tuple #[r, .int .i64 (fdE ⟨l, 0⟩ b : Nat)]) ∧ DFed base w p ⟨l, 0⟩ b w' r a' n' c' := by
  obtain ⟨i0, hi, hz0, hz1, hz2⟩ := info_parts infoU8
  obtain ⟨iA, hiA, hzA0, hzA1, hzA2⟩ := info_parts infoRaw
  have hpl := hD.lt
  have hnl : l.length = n := hD.rd.len
  have c0 : w.cell? ⟨p, 0, none⟩ = some (.slice a n c) := by rw [Lib.cell_of_heap hD.var]; rfl
  have c1 : w.cell? ⟨p, 1, none⟩ = some (.int .i64 0) := by rw [Lib.cell_of_heap hD.var]; rfl
  have HD := hid hD
  have HB := hid hr
  have HS1 : Hid (Src Tryd.prog 1 26 (.slice a n c) n (bc l) w) := hD.rd.src (P := Tryd.prog) Tryd.underlying26
  have HG1 : Hid (∀ v1 w1, w1.ownsRow w.heap.size 5 1 v1 (0 + n) ([] ++ bc l) → w.grownBy w1 none → w1.ownsRow w.heap.size 5 1 v1 l.length (bc l) ∧ (∀ k, v1.ownBlock = some k → w.heap.size ≤ k) ∧ w.heap.size ≤ w1.heap.size ∧ Src Tryd.prog 1 26 (.slice ab nb cb) nb (bc b) w1) := fun v1 w1 o1 g1 => by
    rw [Nat.zero_add, List.nil_append, ← hnl] at o1
    have hb1 : Below w.heap.size w w1 := (Below.refl _ _).grown g1 (Nat.le_refl _) (fun k hk => by cases hk)
    exact ⟨o1, fun k hk => (o1.lt k hk).1, g1.size, (hr.below hb1 (rd_low hr)).src Tryd.underlying26⟩
  clear hD hr
  go_enter Tryd.func11, Tryd.ntmps11
  go_wp2_with (first | (at_builtin; refine wpList_append_own_src _ rfl (.const (.slice none 0 0)) (.tmp 24) 26 26 rfl w.heap.size 5 i0 (.int .u8 0) 1 1 Tryd.underlying26 hi hz0 hz1 hz2 rfl _ 0 [] rfl (World.ownsRow_nil _ _ _ _) _ _ _ rfl HS1.out (by simp only [maxLen]; omega) (fits1 (by omega)) (Nat.le_refl _) ?_; intro v1 w1 o1 g1; obtain ⟨o1', hv1, hs1, hsrc⟩ := HG1.out _ _ o1 g1; have O1 := hid o1'; have G1 : Hid (w.grownBy w1 none) := g1; have HV1 := hid hv1; have HS2 := hid hsrc; clear o1 g1 o1' hv1 hsrc HG1 HS1) | (at_builtin; refine wpList_append_own_src _ rfl (.tmp 25) (.tmp 26) 26 26 rfl w.heap.size 5 i0 (.int .u8 0) 1 1 Tryd.underlying26 hi hz0 hz1 hz2 rfl _ _ _ rfl O1.out _ _ _ rfl HS2.out (by simp only [maxLen]; omega) (fits1 (by omega)) hs1 ?_; intro v2 w2 o2 g2; obtain ⟨a2, c2, rfl, hp2, hRI⟩ := ri_start HD.out O1.out G1.out o2 g2 HV1.out; have RI0 := hid hRI; have d0 : w2.cell? ⟨p, 0, none⟩ = some (.slice a n c) := (by rw [Lib.cell_of_heap hp2]; rfl); have df : ∀ j, w2.frozen? ⟨p, j, none⟩ = false := Lib.frozen_of_heap hp2; have dl : p < w2.heap.size := (Array.getElem?_eq_some_iff.1 hp2).1; clear o2 g2 hp2 hRI O1 G1 HV1 HS2 c0 c1))
  have HLO := hid HD.out.lo
  have HLN : Hid ((l ++ b).length ≤ 1000000) := by rw [Hid, List.length_append, HB.out.len]; exact hn
  clear d0 df dl HD HB hpl
  go_loopw [6] (fun v6 wr => ∃ (ms : List RV) (k : Nat) (aB : Option Addr) (nB cB : Nat), RI w p (l ++ b) wr v6 ms k aB nB cB) (fun _ wr => lenB p wr)
  case atStart =>
    have h := RI0.out
    rw [hnl] at h
    exact ⟨[], 0, a2, _, c2, h⟩
  case round =>
    obtain ⟨ms, k, aB, nB, cB, hI⟩ := hrel
    have IV := hid hI
    have hnB : ((l ++ b).drop k).length = nB := hI.rd.len
    have hk1 : k ≤ (l ++ b).length := hI.mid.1
    have hnB2 : nB ≤ 1000000 := by have := HLN.out; rw [← hnB, List.length_drop]; omega
    have HH := hid (rhead_any wr aB nB cB _ hI.rd (by omega))
    have y0 : wr.cell? ⟨p, 0, none⟩ = some (.slice aB nB cB) := by rw [Lib.cell_of_heap hI.var]; rfl
    have HLEN := hid hI.len
    have HNB := hid hnB
    clear hI RI0 hnB
    go_wp2_with fail
    refine HH.out.mono ?_
    rintro e u ⟨rfl, q, rfl⟩
    have I1 := hid (IV.out.on (below_drewN (Below.refl _ _) q))
    have z0 : (wr.drewN q).cell? ⟨p, 0, none⟩ = some (.slice aB nB cB) := by rw [Lib.cell_of_heap I1.out.var]; rfl
    have z1 : (wr.drewN q).cell? ⟨p, 1, none⟩ = some (.int .i64 0) := by rw [Lib.cell_of_heap I1.out.var]; rfl
    have zf : ∀ j, (wr.drewN q).frozen? ⟨p, j, none⟩ = false := Lib.frozen_of_heap I1.out.var
    have zl : p < (wr.drewN q).heap.size := (Array.getElem?_eq_some_iff.1 I1.out.var).1
    generalize wr.drewN q = u at *
    clear HH y0
    rcases hdE_cases ((l ++ b).drop k) with hE | hE | hE
    · obtain ⟨g1, g2, g3, g4⟩ := hdE_zero hE
      by_cases hs : ((l ++ b).drop k).length < hdS ((l ++ b).drop k)
      · have hf : fE ((l ++ b).drop k) = 2 := by rw [fE, if_neg (by omega), if_pos hs]
        obtain ⟨hd1, hd2⟩ := I1.out.done HLO.out hf
        have HX := hid hd1
        have HY := hid hd2
        rw [hE]
        rw [HNB.out] at hs
        clear hd1 hd2 hf
        generalize hdS ((l ++ b).drop k) = z at *
        generalize hdO ((l ++ b).drop k) = O at *
        generalize hdP ((l ++ b).drop k) = Q at *
        go_wp2
        go_ret2
        rw [HX.out]
        exact ⟨_, _, _, _, rfl, HY.out⟩
      · have hf : fE ((l ++ b).drop k) = 0 := by rw [fE, if_neg (by omega), if_neg hs]
        rw [HNB.out] at hs g1
        obtain ⟨g, o, rfl, hgl, hcl⟩ := I1.out.rd.plain (by omega)
        have hcB := I1.out.rd.le
        obtain ⟨x, hx⟩ : ∃ x, x = fM ((l ++ b).drop k) := ⟨_, rfl⟩
        have hxo : x.o = (hdO ((l ++ b).drop k) : Nat) := by rw [hx, fM]
        have hxp : x.p = (hdP ((l ++ b).drop k) : Nat) := by rw [hx, fM]
        have hxs : x.s = ⟨((((l ++ b).drop k).drop 8).take (hdS ((l ++ b).drop k) - 8)).toArray⟩ := by rw [hx, fM]
        have HCV : Hid (∀ c', (convert 26 9 (.slice (some ⟨g, o + 8, none⟩) (hdS ((l ++ b).drop k) - 8) c')).run Tryd.prog u = .ok (.string x.s) u) := fun c' => by
          rw [hxs]
          exact conv_window (w := u) hcl 8 (hdS ((l ++ b).drop k) - 8) (by rw [HNB.out]; omega) 0 c'
        have HS0 : Hid (hdS ((l ++ b).drop k) = 8 → x.s = ⟨#[]⟩) := fun h => by rw [hxs, h, List.take_zero]
        have I2 := hid (I1.out.on ((Below.refl _ u).alloc (Nat.le_refl _) (.cells #[.int .i64 x.o, .int .i64 x.p, .string x.s] 46 (0, 0))))
        have HOW := hid I2.out.row
        have HSR : Hid (Src Tryd.prog 3 30 (.slice (some ⟨u.heap.size, 0, none⟩) 1 1) 1 (rc x) (u.alloc (.cells #[.int .i64 x.o, .int .i64 x.p, .string x.s] 46 (0, 0)))) :=
          Src.ofSlice (P := Tryd.prog) _ Tryd.underlying30 ⟨u.heap.size, 0, none⟩ 1 1 (rc x) (show (rc x).length = 1 * 3 from rfl) (cells3 u x 46) (rc_one x)
        have hz : w.heap.size ≤ (u.alloc (.cells #[.int .i64 x.o, .int .i64 x.p, .string x.s] 46 (0, 0))).heap.size := I2.out.kp.size
        have hms : ms.length ≤ 1000000 := by have h1 := I1.out.mid.2.2; have h2 := HLN.out; omega
        have HST : Hid (∀ v3 w3, w3.ownsRow w.heap.size 46 3 v3 (ms.length + 1) (rcs ms ++ rc x) → (u.alloc (.cells #[.int .i64 x.o, .int .i64 x.p, .string x.s] 46 (0, 0))).grownBy w3 u6.ownBlock → (v3.ownBlock = u6.ownBlock ∨ v3.ownBlock = some (u.alloc (.cells #[.int .i64 x.o, .int .i64 x.p, .string x.s] 46 (0, 0))).heap.size) →
            w3.heap[p]? = some (.cells #[.slice (some ⟨g, o, none⟩) nB cB, .int .i64 0] 28 (0, 0)) ∧ (cB ≠ hdS ((l ++ b).drop k) → RI w p (l ++ b) (w3.setCell ⟨p, 0, none⟩ (.slice (some ⟨g, o + hdS ((l ++ b).drop k), none⟩) (nB - hdS ((l ++ b).drop k)) (cB - hdS ((l ++ b).drop k)))) v3 (ms ++ [x]) (k + hdS ((l ++ b).drop k)) (some ⟨g, o + hdS ((l ++ b).drop k), none⟩) (nB - hdS ((l ++ b).drop k)) (cB - hdS ((l ++ b).drop k))) ∧
            (cB = hdS ((l ++ b).drop k) → RI w p (l ++ b) (w3.setCell ⟨p, 0, none⟩ (.slice (some ⟨g, o, none⟩) (nB - hdS ((l ++ b).drop k)) 0)) v3 (ms ++ [x]) (k + hdS ((l ++ b).drop k)) (some ⟨g, o, none⟩) (nB - hdS ((l ++ b).drop k)) 0)) := fun v3 w3 o3 g3 hv3 => by
          have hrow := row_lt I2.out.row
          have hp := I2.out.plt
          have hg2 : g < (u.alloc (.cells #[.int .i64 x.o, .int .i64 x.p, .string x.s] 46 (0, 0))).heap.size := by rw [World.size_alloc]; omega
          rw [hx] at o3
          refine ⟨(kp_of_grown g3).var I2.out.var (fun hm => by have := hrow p (by simpa using hm); omega), fun _ => ?_, fun hcz => ?_⟩
          · have h := rd_drop I2.out.rd (hdS ((l ++ b).drop k)) (by omega)
            rw [List.drop_drop] at h
            have h2 := I2.out.step hf o3 g3 hv3 _ _ _ h (fun y hy => by cases hy; exact ⟨_, rfl, rfl, hg2⟩)
            rw [← hx] at h2
            exact h2
          · have hn0 : nB - hdS ((l ++ b).drop k) = 0 := by omega
            have hdn : (l ++ b).drop (k + hdS ((l ++ b).drop k)) = [] := List.drop_eq_nil_of_le (by have h := HNB.out; rw [List.length_drop] at h; omega)
            have h2 := I2.out.step hf o3 g3 hv3 (some ⟨g, o, none⟩) (nB - hdS ((l ++ b).drop k)) 0 (by rw [hdn, hn0]; exact rd_none _ _ (by decide)) (fun y hy => by cases hy; exact ⟨_, rfl, rfl, hg2⟩)
            rw [← hx] at h2
            exact h2
        rw [hE, ← hxo, ← hxp]
        have HLB : Hid (lenB p wr = nB) := HLEN.out
        clear hf hx hxo hxp hxs hcl hgl I1 I2 hE g2
        generalize hdS ((l ++ b).drop k) = z at *
        generalize x.o = O at *
        generalize x.p = Q at *
        by_cases hz8 : z = 8
        · have hxs0 := HS0.out hz8
          rw [hxs0] at HCV HOW HSR hz HST
          subst hz8
          have hcv0 : ∀ y c', (convert 26 9 (.slice (some y) 0 c')).run Tryd.prog u = .ok (.string ⟨#[]⟩) u := fun y c' => conv_none u y c'
          clear HCV HS0
          by_cases hcz : cB = 8
          · subst hcz
            go_wp2_with (at_builtin; refine wpList_append_own_at _ rfl (.tmp 62) (.tmp 73) 30 30 rfl w.heap.size 46 iA (.agg #[.int .i64 0, .int .i64 0, .string ⟨#[]⟩]) 3 32 Tryd.underlying30 hiA hzA0 hzA1 hzA2 rfl _ _ _ rfl HOW.out _ _ _ rfl HSR.out (by simp only [maxLen]; omega) (fits32 (by omega)) hz ?_; intro v3 w3 o3 g3 hv3; obtain ⟨hp3, hA, hB⟩ := HST.out _ _ o3 g3 hv3; have hB0 := hB (by first | exact rfl | exact trivial); rw [show nB - 8 = 0 by omega] at hB0; have HF := hid hB0; clear hB0; have d0 : w3.cell? ⟨p, 0, none⟩ = some (.slice (some ⟨g, o, none⟩) nB 8) := (by rw [Lib.cell_of_heap hp3]; rfl); have df : ∀ j, w3.frozen? ⟨p, j, none⟩ = false := Lib.frozen_of_heap hp3; have dl : p < w3.heap.size := (Array.getElem?_eq_some_iff.1 hp3).1; clear o3 g3 hv3 hp3 hA hB HST HOW HSR z0 z1 zf zl)
            go_wp2
            go_roundw
            case rel => exact ⟨_, _, _, _, _, HF.out⟩
            case measure => rw [HF.out.len, HLB.out]; omega
          · go_wp2_with (at_builtin; refine wpList_append_own_at _ rfl (.tmp 62) (.tmp 73) 30 30 rfl w.heap.size 46 iA (.agg #[.int .i64 0, .int .i64 0, .string ⟨#[]⟩]) 3 32 Tryd.underlying30 hiA hzA0 hzA1 hzA2 rfl _ _ _ rfl HOW.out _ _ _ rfl HSR.out (by simp only [maxLen]; omega) (fits32 (by omega)) hz ?_; intro v3 w3 o3 g3 hv3; obtain ⟨hp3, hA, hB⟩ := HST.out _ _ o3 g3 hv3; have HF := hid (hA hcz); have d0 : w3.cell? ⟨p, 0, none⟩ = some (.slice (some ⟨g, o, none⟩) nB cB) := (by rw [Lib.cell_of_heap hp3]; rfl); have df : ∀ j, w3.frozen? ⟨p, j, none⟩ = false := Lib.frozen_of_heap hp3; have dl : p < w3.heap.size := (Array.getElem?_eq_some_iff.1 hp3).1; clear o3 g3 hv3 hp3 hA hB HST HOW HSR z0 z1 zf zl)
            go_wp2
            go_roundw
            case rel => exact ⟨_, _, _, _, _, HF.out⟩
            case measure => rw [HF.out.len, HLB.out]; omega
        · have hcv0 := HCV.out
          clear HCV HS0
          by_cases hcz : cB = z
          · subst hcz
            go_wp2_with (at_builtin; refine wpList_append_own_at _ rfl (.tmp 62) (.tmp 73) 30 30 rfl w.heap.size 46 iA (.agg #[.int .i64 0, .int .i64 0, .string ⟨#[]⟩]) 3 32 Tryd.underlying30 hiA hzA0 hzA1 hzA2 rfl _ _ _ rfl HOW.out _ _ _ rfl HSR.out (by simp only [maxLen]; omega) (fits32 (by omega)) hz ?_; intro v3 w3 o3 g3 hv3; obtain ⟨hp3, hA, hB⟩ := HST.out _ _ o3 g3 hv3; have hB0 := hB (by first | exact rfl | exact trivial); rw [show nB - cB = 0 by omega] at hB0; have HF := hid hB0; clear hB0; have d0 : w3.cell? ⟨p, 0, none⟩ = some (.slice (some ⟨g, o, none⟩) nB cB) := (by rw [Lib.cell_of_heap hp3]; rfl); have df : ∀ j, w3.frozen? ⟨p, j, none⟩ = false := Lib.frozen_of_heap hp3; have dl : p < w3.heap.size := (Array.getElem?_eq_some_iff.1 hp3).1; clear o3 g3 hv3 hp3 hA hB HST HOW HSR z0 z1 zf zl)
            go_wp2
            go_roundw
            case rel => exact ⟨_, _, _, _, _, HF.out⟩
            case measure => rw [HF.out.len, HLB.out]; omega
          · go_wp2_with (at_builtin; refine wpList_append_own_at _ rfl (.tmp 62) (.tmp 73) 30 30 rfl w.heap.size 46 iA (.agg #[.int .i64 0, .int .i64 0, .string ⟨#[]⟩]) 3 32 Tryd.underlying30 hiA hzA0 hzA1 hzA2 rfl _ _ _ rfl HOW.out _ _ _ rfl HSR.out (by simp only [maxLen]; omega) (fits32 (by omega)) hz ?_; intro v3 w3 o3 g3 hv3; obtain ⟨hp3, hA, hB⟩ := HST.out _ _ o3 g3 hv3; have HF := hid (hA hcz); have d0 : w3.cell? ⟨p, 0, none⟩ = some (.slice (some ⟨g, o, none⟩) nB cB) := (by rw [Lib.cell_of_heap hp3]; rfl); have df : ∀ j, w3.frozen? ⟨p, j, none⟩ = false := Lib.frozen_of_heap hp3; have dl : p < w3.heap.size := (Array.getElem?_eq_some_iff.1 hp3).1; clear o3 g3 hv3 hp3 hA hB HST HOW HSR z0 z1 zf zl)
            go_wp2
            go_roundw
            case rel => exact ⟨_, _, _, _, _, HF.out⟩
            case measure => rw [HF.out.len, HLB.out]; omega
    · have hf : fE ((l ++ b).drop k) = 2 := by rw [fE, if_pos (by omega), hE]
      obtain ⟨hd1, hd2⟩ := I1.out.done HLO.out hf
      have HX := hid hd1
      have HY := hid hd2
      rw [hE]
      clear hd1 hd2 hf
      generalize hdS ((l ++ b).drop k) = z at *
      generalize hdO ((l ++ b).drop k) = O at *
      generalize hdP ((l ++ b).drop k) = Q at *
      go_wp2
      go_ret2
      rw [HX.out]
      exact ⟨_, _, _, _, rfl, HY.out⟩
    · have hf : fE ((l ++ b).drop k) = hdE ((l ++ b).drop k) := by rw [fE, if_pos (by omega)]
      obtain ⟨hd1, hd2⟩ := I1.out.bad HLO.out (by rw [hf]; exact hE)
      rw [hf] at hd1 hd2
      have HX := hid hd1
      have HY := hid hd2
      have e1 : ((hdE ((l ++ b).drop k) : Int) == 2) = false := beq_false_of_ne (by omega)
      have e2 : ((hdE ((l ++ b).drop k) : Int) != 0) = true := by rw [bne_iff_ne]; omega
      clear hd1 hd2 hf hE
      generalize hdE ((l ++ b).drop k) = E at *
      generalize hdS ((l ++ b).drop k) = z at *
      generalize hdO ((l ++ b).drop k) = O at *
      generalize hdP ((l ++ b).drop k) = Q at *
      go_wp2
      go_ret2
      rw [HX.out]
      exact ⟨_, _, _, _, rfl, HY.out⟩
end Go.Proofs.YtfbebifbfpkdaaaDoor
