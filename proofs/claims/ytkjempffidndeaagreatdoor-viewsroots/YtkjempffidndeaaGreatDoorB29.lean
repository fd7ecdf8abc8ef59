/- Lemmas that the proof leans on. -/
import Derived.Test.YtkjempffidndeaaGreatDoorB28
namespace Go.Proofs.YtkjempffidndeaaGreatDoor
open Go Go.RowKit
set_option maxRecDepth 100000
set_option maxHeartbeats 2000000
section
theorem Bs.st {u : World} {p : Nat} {x : Sx} (h : Bs u p x) (x' : Sx) (k : Nat) (v : Value) (hs : (#[.bool x.at_, .int .i64 x.buf, .slice x.dm.a x.dm.n x.dm.c, .slice x.fr.a x.fr.n x.fr.c, .bool x.inp, .bool x.all, .slice x.rg.a x.rg.n x.rg.c, .bool x.ord, .slice x.od.a x.od.n x.od.c, .slice x.pl.a x.pl.n x.pl.c] : Array Value).setIfInBounds k v = #[.bool x'.at_, .int .i64 x'.buf, .slice x'.dm.a x'.dm.n x'.dm.c, .slice x'.fr.a x'.fr.n x'.fr.c, .bool x'.inp, .bool x'.all, .slice x'.rg.a x'.rg.n x'.rg.c, .bool x'.ord, .slice x'.od.a x'.od.n x'.od.c, .slice x'.pl.a x'.pl.n x'.pl.c]) : Bs (u.setCell ⟨p, k, none⟩ v) p x' := ⟨by
 have := h.bk.set k v
 rw [hs] at this
 exact this⟩
theorem outL_snoc (id : Int) (l : List (List Int)) (j : Nat) (y : List Int) (h : l[j]? = some y) : outL id (l.take (j + 1)) = outL id (l.take j) ++ if hd y = id then [] else [y] := by
 rw [List.take_add_one, h, outL, List.filter_append]
 congr 1
 rw [Option.toList_some, List.filter_cons]
 by_cases hy : hd y = id
 ·rw [if_pos hy, if_neg (by simpa using hy)]
  rfl
 ·rw [if_neg hy, if_pos (by simpa using hy)]
  rfl
def OutR (w : World) (id : Int) (x : Sx) (e : Ending) (w' : World) : Prop := ∃ r : Sx, e = .returned (.agg #[.bool r.at_, .int .i64 r.buf, .slice r.dm.a r.dm.n r.dm.c, .slice r.fr.a r.fr.n r.fr.c, .bool r.inp, .bool r.all, .slice r.rg.a r.rg.n r.rg.c, .bool r.ord, .slice r.od.a r.od.n r.od.c, .slice r.pl.a r.pl.n r.pl.c]) ∧ r.at_ = x.at_ ∧ r.buf = x.buf ∧ r.dm = x.dm ∧ r.fr = x.fr ∧ r.inp = x.inp ∧ r.all = x.all ∧ r.rg = x.rg ∧ r.ord = x.ord ∧ r.od.l = outL id x.od.l ∧ r.pl.l = outL id x.pl.l ∧ RdM 1 w' r.od.a r.od.n r.od.c r.od.l ∧ RdM 3 w' r.pl.a r.pl.n r.pl.c r.pl.l ∧ (∀ y, r.od.a = some y → w.heap.size ≤ y.block) ∧ (∀ y, r.pl.a = some y → w.heap.size ≤ y.block) ∧ Below w.heap.size w w'
theorem rout_any (x : Sx) (id : Int) (w : World) (ok : x.Ok w) (hl : x.Len 1000) :
  Calls Tryz.prog 88 #[.agg #[.bool x.at_, .int .i64 x.buf, .slice x.dm.a x.dm.n x.dm.c, .slice x.fr.a x.fr.n x.fr.c, .bool x.inp, .bool x.all, .slice x.rg.a x.rg.n x.rg.c, .bool x.ord, .slice x.od.a x.od.n x.od.c, .slice x.pl.a x.pl.n x.pl.c], .int .i64 id] w (OutR w id x) := by
 obtain ⟨i0, hi, hn0, hn1, hn2⟩ := infoMP infoM3
 obtain ⟨W, hW⟩ : ∃ W, W = (w.alloc (.cells #[.bool x.at_, .int .i64 x.buf, .slice x.dm.a x.dm.n x.dm.c, .slice x.fr.a x.fr.n x.fr.c, .bool x.inp, .bool x.all, .slice x.rg.a x.rg.n x.rg.c, .bool x.ord, .slice x.od.a x.od.n x.od.c, .slice x.pl.a x.pl.n x.pl.c] 72)).alloc (.cells #[.bool sx0.at_, .int .i64 sx0.buf, .slice sx0.dm.a sx0.dm.n sx0.dm.c, .slice sx0.fr.a sx0.fr.n sx0.fr.c, .bool sx0.inp, .bool sx0.all, .slice sx0.rg.a sx0.rg.n sx0.rg.c, .bool sx0.ord, .slice sx0.od.a sx0.od.n sx0.od.c, .slice sx0.pl.a sx0.pl.n sx0.pl.c] 72) := ⟨_, rfl⟩
 have hb0 := bs_new w x
 have hb1 := bs_new (w.alloc (.cells #[.bool x.at_, .int .i64 x.buf, .slice x.dm.a x.dm.n x.dm.c, .slice x.fr.a x.fr.n x.fr.c, .bool x.inp, .bool x.all, .slice x.rg.a x.rg.n x.rg.c, .bool x.ord, .slice x.od.a x.od.n x.od.c, .slice x.pl.a x.pl.n x.pl.c] 72)) sx0
 have hB0 := bel_new w (.cells #[.bool x.at_, .int .i64 x.buf, .slice x.dm.a x.dm.n x.dm.c, .slice x.fr.a x.fr.n x.fr.c, .bool x.inp, .bool x.all, .slice x.rg.a x.rg.n x.rg.c, .bool x.ord, .slice x.od.a x.od.n x.od.c, .slice x.pl.a x.pl.n x.pl.c] 72)
 have hB1 := bel_new (w.alloc (.cells #[.bool x.at_, .int .i64 x.buf, .slice x.dm.a x.dm.n x.dm.c, .slice x.fr.a x.fr.n x.fr.c, .bool x.inp, .bool x.all, .slice x.rg.a x.rg.n x.rg.c, .bool x.ord, .slice x.od.a x.od.n x.od.c, .slice x.pl.a x.pl.n x.pl.c] 72)) (.cells #[.bool sx0.at_, .int .i64 sx0.buf, .slice sx0.dm.a sx0.dm.n sx0.dm.c, .slice sx0.fr.a sx0.fr.n sx0.fr.c, .bool sx0.inp, .bool sx0.all, .slice sx0.rg.a sx0.rg.n sx0.rg.c, .bool sx0.ord, .slice sx0.od.a sx0.od.n sx0.od.c, .slice sx0.pl.a sx0.pl.n sx0.pl.c] 72)
 have hb2 := hb0.on hB1
 have hBW := Below.on hB0 hB1
 rw [size_new] at hb1
 rw [← hW] at hb1 hb2 hBW
 have hsW : W.heap.size = w.heap.size + 1 + 1 := by rw [hW, size_new, size_new]
 have h8 := hl.2.2.2.1
 have h9 := hl.2.2.2.2
 have HOK := hid ok
 have HB0 := hid hb2
 have HB1 := hid hb1
 have HBW := hid hBW
 have HW := hid hW
 have CD := hid (odropr_any _ _ _ _ id W (rz_of_rdm (ok.od.on hBW)) (by omega))
 have HD1 : Hid (sg (dr id (un1 x.od.l)) = outL id x.od.l) := by
  rw [Hid, ← outL_sg, sg_un1 ok.od.size]
 clear hb0 hb1 hB0 hB1 hb2 hBW ok hl hW
 go_enter Tryz.func88, Tryz.ntmps88
 go_upto_region 1 with fail
 rw [show ((w.alloc (.cells #[.bool x.at_, .int .i64 x.buf, .slice x.dm.a x.dm.n x.dm.c, .slice x.fr.a x.fr.n x.fr.c, .bool x.inp, .bool x.all, .slice x.rg.a x.rg.n x.rg.c, .bool x.ord, .slice x.od.a x.od.n x.od.c, .slice x.pl.a x.pl.n x.pl.c] 72)).alloc (.cells #[.bool false, .int .i64 0, .slice none 0 0, .slice none 0 0, .bool false, .bool false, .slice none 0 0, .bool false, .slice none 0 0, .slice none 0 0] 72)) = W from HW.out.symm]
 obtain ⟨xa, xb, xc, xd, xe, xf, xg, xh, xi, xj⟩ := HB0.out.all
 go_wp2_with fail
 refine CD.out.mono ?_
 rintro e w3 ⟨v3, rfl, ho3⟩
 obtain ⟨a3, c3, rfl, hr3, hf3⟩ := ho3.rd
 obtain ⟨od, ho1, ho2, ho4⟩ : ∃ od : Sl, od.l = outL id x.od.l ∧ Value.slice a3 (dr id (un1 x.od.l)).length c3 = .slice od.a od.n od.c ∧ RdF 1 w3 (w.heap.size + 1) od :=
  ⟨⟨a3, _, c3, sg (dr id (un1 x.od.l))⟩, HD1.out, rfl, ⟨rdm_of_rz hr3, fun y hy => by have := (hf3 y hy).1; omega⟩⟩
 rw [ho2]
 have HO1 := hid ho1
 have hb3 := HB0.out.on ho3.bel
 have hz3 := HB1.out.on ho3.bel
 have hB3 := Below.on HBW.out ho3.bel
 obtain ⟨xa, xb, xc, xd, xe, xf, xg, xh, xi, xj⟩ := hb3.all
 have fz := hb3.fz
 obtain ⟨W4, hW4⟩ : ∃ W4, W4 = w3.setCell ⟨w.heap.size, 8, none⟩ (.slice od.a od.n od.c) := ⟨_, rfl⟩
 have hb4 : Bs W4 w.heap.size { x with od := od } := by rw [hW4]; exact hb3.st { x with od := od } 8 (.slice od.a od.n od.c) rfl
 have hz4 : Bs W4 (w.heap.size + 1) sx0 := by rw [hW4]; exact hz3.other (by omega) 8 _
 have hr4 : RdF 1 W4 (w.heap.size + 1) od := by rw [hW4]; exact ho4.st (q := w.heap.size) (by omega) 8 _
 have hB4 : Below w.heap.size w W4 := by rw [hW4]; exact hB3.setCell (p := ⟨w.heap.size, 8, none⟩) (Nat.le_refl _) _
 have hs4 : w.heap.size + 1 < W4.heap.size := hz4.lt
 have HB4 := hid hb4
 have HZ4 := hid hz4
 have HR4 := hid hr4
 have HBW4 := hid hB4
 have HW4 := hid hW4
 clear ho3 hr3 hf3 ho1 ho2 ho4 hb3 hz3 hB3 hb4 hz4 hr4 hB4 hW4 CD HB0 HB1 HBW HW
 go_wp2
 rw [← HW4.out]
 obtain ⟨N, hN⟩ : ∃ N, N = x.pl.n := ⟨_, rfl⟩
 have h9' : N ≤ 1000 := by omega
 have HN := hid hN
 clear hN xa xb xc xd xe xf xg xh xi xj fz
 have HPS := hid HOK.out.pl.size
 go_loopw [5, 6] (fun v i wr => ∃ j : Nat, i = .int .i64 j ∧ j ≤ N ∧ OwM 3 46 W4 wr v (outL id (x.pl.l.take j))) (fun _ i _ => N - (numOf i).toNat)
 case atStart => exact ⟨0, rfl, by omega, OwM.nil _ _ _⟩
 case round =>
  obtain ⟨j, rfl, hj, ho⟩ := hrel
  have hbr := HB4.out.on ho.bel
  obtain ⟨xa, xb, xc, xd, xe, xf, xg, xh, xi, xj⟩ := hbr.all
  have hol : (outL id (x.pl.l.take j)).length ≤ j := Nat.le_trans (outL_length _ _) (List.length_take_le _ _)
  have hpl := HOK.out.pl.on (Below.on HBW4.out ho.bel)
  have hple := hpl.small
  rw [← HN.out] at hpl hple xj
  dsimp only at xj
  by_cases hgo : j < N
  ·have e1 : decide ((j : Int) < N) = true := decide_eq_true (by omega)
   have e2 : (j : Int) < N := by omega
   obtain ⟨bl, off, z0, z1, z2, ha, _, hx, c0, c1, c2⟩ := hpl.el3 hgo
   rw [ha] at xj
   have HO := hid ho
   have HSN := hid (outL_snoc id x.pl.l j [z0, z1, z2] hx)
   rw [hd3] at HSN
   clear xa xb xc xd xe xf xg xh xi hbr hpl hx ha
   cases hs : (z0 != id)
   ·have hz : z0 = id := by simpa using hs
    rw [if_pos hz, List.append_nil] at HSN
    clear hz
    go_wp2
    go_roundw
    case rel => exact ⟨j + 1, by go_num, by omega, by rw [HSN.out]; exact HO.out⟩
    case measure => simp [numOf]; omega
   ·have hz : ¬ z0 = id := by simpa using hs
    rw [if_neg hz] at HSN
    clear hz
    have hO5 := HO.out.on (bel_new wr (.cells #[.int .i64 z0, .int .i64 z1, .int .i64 z2] 46))
    have HS := hid (src3 wr z0 z1 z2)
    have HO5 := hid hO5
    have HZ5 := hid hO5.own
    have hsz := hO5.bel.size
    have HG5 : Hid (∀ v v' u, OwM 3 46 W4 (wr.alloc (.cells #[.int .i64 z0, .int .i64 z1, .int .i64 z2] 46)) v (outL id (x.pl.l.take j)) → u.ownsRow W4.heap.size 46 3 v' ((outL id (x.pl.l.take j)).length + 1) (mcs (outL id (x.pl.l.take j)) ++ mcs [[z0, z1, z2]]) → (wr.alloc (.cells #[.int .i64 z0, .int .i64 z1, .int .i64 z2] 46)).grownBy u v.ownBlock → OwM 3 46 W4 u v' (outL id (x.pl.l.take (j + 1)))) := fun v v' u h1 h2 h3 => by
     rw [HSN.out]
     exact h1.grown (k := [[z0, z1, z2]]) (by simp) h2 h3
    clear hO5 ho
    generalize (outL id (x.pl.l.take j)).length = m at *
    go_wp2_with (at_builtin; refine wpList_append_own_src _ rfl (.tmp 27) (.tmp 33) 23 23 rfl W4.heap.size 46 i0 (.agg #[.int .i64 0, .int .i64 0, .int .i64 0]) 3 24 Tryz.underlying23 hi hn0 hn1 hn2 rfl _ _ _ rfl HZ5.out _ _ _ rfl HS.out (by simp only [maxLen]; omega) (fitsM (by omega) (by decide)) hsz ?_; intro v6 w6 o6 g6; have HO6 := hid (HG5.out _ _ _ HO5.out o6 g6); clear o6 g6)
    go_roundw
    case rel => exact ⟨j + 1, by go_num, by omega, HO6.out⟩
    case measure => simp [numOf]; omega
  ·have e1 : decide ((j : Int) < N) = false := decide_eq_false (by omega)
   obtain rfl : j = N := by omega
   have htk : x.pl.l.take j = x.pl.l := List.take_of_length_le (by rw [HOK.out.pl.len, ← HN.out]; exact Nat.le_refl _)
   rw [htk] at ho
   obtain ⟨a5, c5, rfl, hr5, hf5⟩ := ho.rd
   obtain ⟨pl, hp1, hp2, hp4⟩ : ∃ pl : Sl, pl.l = outL id x.pl.l ∧ Value.slice a5 (outL id x.pl.l).length c5 = .slice pl.a pl.n pl.c ∧ RdF 3 wr (w.heap.size + 1) pl :=
    ⟨⟨a5, _, c5, outL id x.pl.l⟩, rfl, rfl, ⟨hr5, fun y hy => by have := (hf5 y hy).1; omega⟩⟩
   rw [hp2]
   have fz := hbr.fz
   have hz5 := HZ4.out.on ho.bel
   have ho5 := HR4.out.on ho.bel
   have hB5 := Below.on HBW4.out ho.bel
   obtain ⟨W5, hW5⟩ : ∃ W5, W5 = wr.setCell ⟨w.heap.size, 9, none⟩ (.slice pl.a pl.n pl.c) := ⟨_, rfl⟩
   obtain ⟨r, hr⟩ : ∃ r : Sx, r = { x with od := od, pl := pl } := ⟨_, rfl⟩
   have hb6 : Bs W5 w.heap.size r := by rw [hW5, hr]; exact hbr.st { x with od := od, pl := pl } 9 (.slice pl.a pl.n pl.c) rfl
   have hz6 : Bs W5 (w.heap.size + 1) sx0 := by rw [hW5]; exact hz5.other (by omega) 9 _
   have ho6 : RdF 1 W5 (w.heap.size + 1) r.od := by rw [hW5, hr]; exact ho5.st (q := w.heap.size) (by omega) 9 _
   have hp6 : RdF 3 W5 (w.heap.size + 1) r.pl := by rw [hW5, hr]; exact hp4.st (q := w.heap.size) (by omega) 9 _
   have hB6 : Below w.heap.size w W5 := by rw [hW5]; exact hB5.setCell (p := ⟨w.heap.size, 9, none⟩) (Nat.le_refl _) _
   have HP1 : Hid (r.od.l = outL id x.od.l ∧ r.pl.l = outL id x.pl.l) := by rw [Hid, hr]; exact ⟨HO1.out, hp1⟩
   have HRX : Hid (r.at_ = x.at_ ∧ r.buf = x.buf ∧ r.dm = x.dm ∧ r.fr = x.fr ∧ r.inp = x.inp ∧ r.all = x.all ∧ r.rg = x.rg ∧ r.ord = x.ord) := by rw [Hid, hr]; exact ⟨rfl, rfl, rfl, rfl, rfl, rfl, rfl, rfl⟩
   have HZ7 := hid (hz6.stz r)
   have HB7 := hid (below_stz hB6 (show w.heap.size ≤ w.heap.size + 1 by omega) r)
   have HO7 := hid (ho6.stz (q := w.heap.size + 1) (Nat.le_refl _) r)
   have HP7 := hid (hp6.stz (q := w.heap.size + 1) (Nat.le_refl _) r)
   have HW5 := hid hW5
   obtain ⟨ra, rb, rc, rd, re, rf, rg, rh, ri, rj⟩ := hb6.all
   obtain ⟨za, zb, zc, zd, ze, zf, zg, zh, zi, zj⟩ := hz6.all
   have fz6 := hz6.fz
   have hlt6 := hz6.lt
   clear ho hr5 hf5 hp1 hp2 hp4 hz5 ho5 hB5 hb6 hz6 ho6 hp6 hB6 hr hW5 htk hpl HB4 HZ4 HR4 HBW4 HW4 HPS hbr
   go_upto_region 9 with fail
   rw [← HW5.out]
   clear xa xb xc xd xe xf xg xh xi xj fz
   go_wp2
   refine bodyPost_ret (results_cell_row rfl _ _ (w.heap.size + 1) _ _ _ _ rfl HZ7.out.bk.obj Tryz.underlying72 rfl infoSt) rfl ?_
   obtain ⟨q1, q2, q3, q4, q5, q6, q7, q8⟩ := HRX.out
   exact ⟨r, rfl, q1, q2, q3, q4, q5, q6, q7, q8, HP1.out.1, HP1.out.2, HO7.out.rd, HP7.out.rd, fun y hy => by have := HO7.out.far y hy; omega, fun y hy => by have := HP7.out.far y hy; omega, HB7.out⟩
end
section
variable {base : Nat} {X : List Nat} {w : World} {q : Nat} {v : Value} {L : Ro}
theorem rcs_split {L : Ro} {i : Nat} {e : Int × Sr} (h : L[i]? = some e) : ∃ A B, A.length = i * 33 ∧ rcs L = A ++ (scs e ++ B) ∧ ∀ e', rcs (L.set i e') = A ++ (scs e' ++ B) := by
 have hi := (List.getElem?_eq_some_iff.1 h).1
 refine ⟨rcs (L.take i), rcs (L.drop (i + 1)), by rw [rcs_length, List.length_take]; omega, ?_, fun e' => ?_⟩
 ·rw [← rcs_cons, ← rcs_append, ← drop_atZ h, List.take_append_drop]
 ·rw [← rcs_cons, ← rcs_append, List.set_eq_take_append_cons_drop, if_pos hi]
theorem rcs_setl {L : Ro} {i : Nat} {e : Int × Sr} (h : L[i]? = some e) {j : Nat} {vs : List Value} (hj : j + vs.length ≤ 33) (e' : Int × Sr) (he : scs e' = setl (scs e) j vs) : rcs (L.set i e') = setl (rcs L) (i * 33 + j) vs := by
 obtain ⟨A, B, h1, h2, h3⟩ := rcs_split h
 rw [h3, h2, he, ← h1, setl_mid A (scs e) B j vs hj]
theorem Df.setl (h : Df base X w q v L) {i g : Nat} {id : Int} {s : Sr} (hi : L[i]? = some (id, s)) (hg : v.ownBlock = some g) {j : Nat} (vs : List Value) (hj : j + vs.length ≤ 33) (s' : Sr) (hs : scs (id, s') = Go.Proofs.YtkjempffidndeaaGreatDoor.setl (scs (id, s)) j vs) (ok : s'.Ok w) (off : ∀ P ∈ q :: (v.ownBlock.toList ++ X), s'.Off P) :
  Df base X (stl w g (i * 33 + j) vs) q v (L.set i (id, s')) ∧ Kp [g] w (stl w g (i * 33 + j) vs) := by
 have hne : q ≠ g := fun e => h.ne (by rw [hg, e])
 have hk := kp_stl w g (i * 33 + j) vs
 have hgm : g ∈ q :: (v.ownBlock.toList ++ X) := by simp [hg]
 refine ⟨⟨hk.var h.obj (by simp [hne]), ?_, h.ne, fun e he => ?_, fun e he => ?_⟩, hk⟩
 ·have hr := h.row
  obtain ⟨c, hv⟩ := own_form hr hg
  subst hv
  rw [rcs_setl hi hj (id, s') hs, List.length_set]
  exact ownsRow_stl hr _ vs
 ·rcases mem_set he with rfl | he
  ·exact ok.kpo (off g hgm) hk
  ·exact (h.ok e he).kpo (h.off e he g hgm) hk
 ·rcases mem_set he with rfl | he
  ·exact off
  ·exact h.off e he
def peR (r : Sx) (s : Sr) : Sr := { s with pe := r }
def caR (r : Sx) (s : Sr) : Sr := { s with ca := r }
def noR (r : Sx) (s : Sr) : Sr := { s with no := r }
theorem Df.setPe (h : Df base X w q v L) {i g : Nat} {id : Int} {s : Sr} (hi : L[i]? = some (id, s)) (hg : v.ownBlock = some g) (r : Sx) (ok : r.Ok w) (off : ∀ P ∈ q :: (v.ownBlock.toList ++ X), r.Off P) : Df base X (sto w g (i * 33 + 3) r) q v (L.set i (id, peR r s)) ∧ Kp [g] w (sto w g (i * 33 + 3) r) := by
 have hok := h.ok _ (Df.mem hi)
 have hof := h.off _ (Df.mem hi)
 rw [sto_eq]
 exact h.setl hi hg (j := 3) (sxc r) (by show _ + 10 ≤ 33; omega) (peR r s) rfl ⟨ok, hok.ca, hok.no⟩ (fun P hP => ⟨off P hP, (hof P hP).ca, (hof P hP).no⟩)
theorem Df.setCa (h : Df base X w q v L) {i g : Nat} {id : Int} {s : Sr} (hi : L[i]? = some (id, s)) (hg : v.ownBlock = some g) (r : Sx) (ok : r.Ok w) (off : ∀ P ∈ q :: (v.ownBlock.toList ++ X), r.Off P) : Df base X (sto w g (i * 33 + 13) r) q v (L.set i (id, caR r s)) ∧ Kp [g] w (sto w g (i * 33 + 13) r) := by
 have hok := h.ok _ (Df.mem hi)
 have hof := h.off _ (Df.mem hi)
 rw [sto_eq]
 exact h.setl hi hg (j := 13) (sxc r) (by show _ + 10 ≤ 33; omega) (caR r s) rfl ⟨hok.pe, ok, hok.no⟩ (fun P hP => ⟨(hof P hP).pe, off P hP, (hof P hP).no⟩)
theorem Df.setNo (h : Df base X w q v L) {i g : Nat} {id : Int} {s : Sr} (hi : L[i]? = some (id, s)) (hg : v.ownBlock = some g) (r : Sx) (ok : r.Ok w) (off : ∀ P ∈ q :: (v.ownBlock.toList ++ X), r.Off P) : Df base X (sto w g (i * 33 + 23) r) q v (L.set i (id, noR r s)) ∧ Kp [g] w (sto w g (i * 33 + 23) r) := by
 have hok := h.ok _ (Df.mem hi)
 have hof := h.off _ (Df.mem hi)
 rw [sto_eq]
 exact h.setl hi hg (j := 23) (sxc r) (by show _ + 10 ≤ 33; omega) (noR r s) rfl ⟨hok.pe, hok.ca, ok⟩ (fun P hP => ⟨(hof P hP).pe, (hof P hP).ca, off P hP⟩)
theorem Df.setPar (h : Df base X w q v L) {i g : Nat} {id : Int} {s : Sr} (hi : L[i]? = some (id, s)) (hg : v.ownBlock = some g) (p : Int) : Df base X (w.setCell ⟨g, i * 33 + 1, none⟩ (.int .i64 p)) q v (L.set i (id, { s with par := p })) ∧ Kp [g] w (w.setCell ⟨g, i * 33 + 1, none⟩ (.int .i64 p)) := by
 have hok := h.ok _ (Df.mem hi)
 have hof := h.off _ (Df.mem hi)
 exact h.set hi hg (j := 1) (by omega) (.int .i64 p) { s with par := p } rfl ⟨hok.pe, hok.ca, hok.no⟩ (fun P hP => ⟨(hof P hP).pe, (hof P hP).ca, (hof P hP).no⟩)
structure Sc (u : World) (g o : Nat) (x : Sx) : Prop where
 c0 : u.cell? ⟨g, o, none⟩ = some (.bool x.at_)
 c1 : u.cell? ⟨g, o + 1, none⟩ = some (.int .i64 x.buf)
 c2 : u.cell? ⟨g, o + 2, none⟩ = some (.slice x.dm.a x.dm.n x.dm.c)
 c3 : u.cell? ⟨g, o + 3, none⟩ = some (.slice x.fr.a x.fr.n x.fr.c)
 c4 : u.cell? ⟨g, o + 4, none⟩ = some (.bool x.inp)
 c5 : u.cell? ⟨g, o + 5, none⟩ = some (.bool x.all)
 c6 : u.cell? ⟨g, o + 6, none⟩ = some (.slice x.rg.a x.rg.n x.rg.c)
 c7 : u.cell? ⟨g, o + 7, none⟩ = some (.bool x.ord)
 c8 : u.cell? ⟨g, o + 8, none⟩ = some (.slice x.od.a x.od.n x.od.c)
 c9 : u.cell? ⟨g, o + 9, none⟩ = some (.slice x.pl.a x.pl.n x.pl.c)
theorem Df.scPe (h : Df base X w q v L) {i g : Nat} {id : Int} {s : Sr} (hi : L[i]? = some (id, s)) (hg : v.ownBlock = some g) : Sc w g (i * 33 + 3) s.pe :=
 ⟨h.at_ hi hg (j := 3) (by omega), h.at_ hi hg (j := 4) (by omega), h.at_ hi hg (j := 5) (by omega), h.at_ hi hg (j := 6) (by omega), h.at_ hi hg (j := 7) (by omega), h.at_ hi hg (j := 8) (by omega), h.at_ hi hg (j := 9) (by omega), h.at_ hi hg (j := 10) (by omega), h.at_ hi hg (j := 11) (by omega), h.at_ hi hg (j := 12) (by omega)⟩
theorem Df.scCa (h : Df base X w q v L) {i g : Nat} {id : Int} {s : Sr} (hi : L[i]? = some (id, s)) (hg : v.ownBlock = some g) : Sc w g (i * 33 + 13) s.ca :=
 ⟨h.at_ hi hg (j := 13) (by omega), h.at_ hi hg (j := 14) (by omega), h.at_ hi hg (j := 15) (by omega), h.at_ hi hg (j := 16) (by omega), h.at_ hi hg (j := 17) (by omega), h.at_ hi hg (j := 18) (by omega), h.at_ hi hg (j := 19) (by omega), h.at_ hi hg (j := 20) (by omega), h.at_ hi hg (j := 21) (by omega), h.at_ hi hg (j := 22) (by omega)⟩
theorem Df.scNo (h : Df base X w q v L) {i g : Nat} {id : Int} {s : Sr} (hi : L[i]? = some (id, s)) (hg : v.ownBlock = some g) : Sc w g (i * 33 + 23) s.no :=
 ⟨h.at_ hi hg (j := 23) (by omega), h.at_ hi hg (j := 24) (by omega), h.at_ hi hg (j := 25) (by omega), h.at_ hi hg (j := 26) (by omega), h.at_ hi hg (j := 27) (by omega), h.at_ hi hg (j := 28) (by omega), h.at_ hi hg (j := 29) (by omega), h.at_ hi hg (j := 30) (by omega), h.at_ hi hg (j := 31) (by omega), h.at_ hi hg (j := 32) (by omega)⟩
end
end Go.Proofs.YtkjempffidndeaaGreatDoor
