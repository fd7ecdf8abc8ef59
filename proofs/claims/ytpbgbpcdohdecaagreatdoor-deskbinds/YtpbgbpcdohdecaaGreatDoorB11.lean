/- Lemmas that the proof leans on. -/
import Derived.Test.YtpbgbpcdohdecaaGreatDoorB10
import Derived.Maps.OwnIn
namespace Go.Proofs.YtpbgbpcdohdecaaGreatDoor
open Go Go.RowKit
set_option maxRecDepth 100000
set_option maxHeartbeats 2000000
section
theorem ints_of_owns_UseC {w : World} {base e n : Nat} {v : Value} {zs : List Int} (h : w.ownsRow base e 1 v n (zs.map encZ)) : ∃ a c, v = .slice a n c ∧ zs.length = n ∧ n ≤ c ∧ c ≤ maxLen ∧ (a = none → c = 0) ∧ ∀ x, a = some x → ∃ g, x = ⟨g, 0, none⟩ ∧ base ≤ g ∧ g < w.heap.size ∧ ∀ j z, zs[j]? = some z → w.cell? ⟨g, j, none⟩ = some (.int .i64 z) := by
 have hl : zs.length = n := by have := h.1; rw [List.length_map] at this; omega
 rcases h.2 with ⟨rfl, rfl⟩ | ⟨g, cap, cur, rfl, hb, hg, hn, hm, _, _⟩
 ·exact ⟨none, 0, rfl, hl, Nat.le_refl _, Nat.zero_le _, fun _ => rfl, fun x hx => by cases hx⟩
 ·refine ⟨some ⟨g, 0, none⟩, cap, rfl, hl, hn, hm, (fun h => by cases h), fun x hx => ?_⟩
  cases hx
  refine ⟨g, rfl, hb, (Array.getElem?_eq_some_iff.1 hg).1, fun j z hz => ?_⟩
  have := h.cells rfl j (.int .i64 z) (by rw [List.getElem?_map, hz]; rfl)
  rw [Go.WideShapes.add_plain, Nat.zero_add] at this
  exact this
theorem of_wf64_UseC {z : Int} (h : (Lit.int .i64 z).wf = true) : I64_UseB z := by simpa [Lit.wf, IntKind.min, IntKind.max, IntKind.signed, IntKind.bits] using h
theorem map_cell {w : World} {g : Nat} {R : Value → Option (DataW Unit × List MemPlace)} {n : Nat} {D : DataW Unit} (h : w.ownsMap Tryz.prog 3 R g n D) {x : Addr} {v : Value} (hc : w.cell? x = some v) : x.block ≠ g := by
 obtain ⟨es, clock, hb, _⟩ := h
 intro e
 subst e
 simp [World.cell?, hb] at hc
variable {w w' : World} {p a b : Nat} {L told : List Int}
theorem un_wr (l : List Int) (x k : Int) (hx : 0 < x) : gt (wr (un l) x ()) k = gt (un (if 0 < x ∧ x ∉ l then l ++ [x] else l)) k := by
 rw [gt_wr, gt_un, gt_un]
 by_cases e : k = x
 ·subst e
  rw [if_pos rfl]
  split
  ·simp
  ·rename_i h
   have : k ∈ l := Decidable.byContradiction fun h' => h ⟨hx, h'⟩
   simp [this]
 ·rw [if_neg e]
  split <;> rename_i h <;> split <;> simp [e, h]
theorem un_rm (l : List Int) (x k : Int) : gt (rm (un l) x) k = gt (un (l.filter fun y => decide (y ≠ x))) k := by
 rw [gt_rm, gt_un, gt_un]
 by_cases e : k = x
 ·subst e
  simp
 ·simp [e]
theorem set_put {R : World} {x n : Nat} {D : DataW Unit} {l : List Int} {z : Int} (hD : Rp ud () D (un l)) (hm : Maps.IsMap D) (hz : 0 < z) (ho : R.ownsMap Tryz.prog 3 uR x n (D.put (.int .i64 z) (ud ()))) (hn : (if 0 < z ∧ z ∉ l then l ++ [z] else l).Nodup) :
  ∃ D', R.ownsMap Tryz.prog 3 uR x (if 0 < z ∧ z ∉ l then l ++ [z] else l).length D' ∧ Rp ud () D' (un (if 0 < z ∧ z ∉ l then l ++ [z] else l)) := by
 have h := rp_congr (hD.put hm z ()) (fun k => un_wr l z k hz)
 refine ⟨_, ?_, h⟩
 have := ptight ho Tryz.underlying3 h (by rw [keys_un]; exact hn)
 rwa [un_length] at this
theorem set_del {R : World} {x n : Nat} {D : DataW Unit} {l : List Int} {z : Int} (hD : Rp ud () D (un l)) (ho : R.ownsMap Tryz.prog 3 uR x n (D.del (.int .i64 z))) (hn : l.Nodup) :
  ∃ D', R.ownsMap Tryz.prog 3 uR x (l.filter fun y => decide (y ≠ z)).length D' ∧ Rp ud () D' (un (l.filter fun y => decide (y ≠ z))) := by
 have h := rp_congr (hD.del z) (fun k => un_rm l z k)
 refine ⟨_, ?_, h⟩
 have := ptight ho Tryz.underlying3 h (by rw [keys_un]; exact List.Nodup.sublist List.filter_sublist hn)
 rwa [un_length] at this
structure Mid_UseC (w : World) (a b x : Nat) (N G told : List Int) : Prop where
 nax : a ≠ x
 nbx : b ≠ x
 nab : a ≠ b
 nown : ∃ D, w.ownsMap Tryz.prog 3 uR x N.length D ∧ Rp ud () D (un N)
 gown : ∃ D, w.ownsMap Tryz.prog 3 uR a G.length D ∧ Rp ud () D (un G)
 town : ∃ D T, w.ownsMap Tryz.prog 3 iR b T.length D ∧ Rp idt 0 D T ∧ Cnt T told
theorem Mid_UseC.on {x : Nat} {N G : List Int} (h : Mid_UseC w a b x N G told) (hb : Below w.heap.size w w') : Mid_UseC w' a b x N G told := by
 obtain ⟨D1, h1, h2⟩ := h.nown
 obtain ⟨D2, h3, h4⟩ := h.gown
 obtain ⟨D3, T, h5, h6, h7⟩ := h.town
 have hk := kp_of_below hb []
 exact ⟨h.nax, h.nbx, h.nab, ⟨D1, own_kp_UseB h1 hk (by simp), h2⟩, ⟨D2, own_kp_UseB h3 hk (by simp), h4⟩, ⟨D3, T, own_kp_UseB h5 hk (by simp), h6, h7⟩⟩
def NowIs (w : World) (p a b : Nat) (L told zs : List Int) (e : Ending) (w' : World) : Prop :=
 ∃ v, e = .returned v ∧ w'.ownsRow w.heap.size 3 1 v (gone L zs).length ((gone L zs).map encZ) ∧ (∃ a', w.heap.size ≤ a' ∧ Ust w' p a' b (setOf zs) (told ++ gone L zs)) ∧ Kp [p, a, b] w w'
theorem unow_any (hT : Ust w p a b L told) (s : Option Addr) (n c : Nat) (zs : List Int) (hr : RdI .i64 w s n c zs) (hn : n ≤ 1000000) (hL : L.length ≤ 1000000) (ht : told.length ≤ 1000000000) :
  Calls Tryz.prog 53 #[.pointer (some ⟨p, 0, none⟩), .slice s n c] w fun e w' => NowIs w p a b L told zs e w' := by
 have hc1 := hr.le
 have hc2 := hr.max
 simp only [maxLen] at hc2
 have hlen := hr.len
 have HR := hid hr
 have HT := hid hT
 have HW := hid hT.pos
 have HC := hid hT.c0
 have HC1 := hid hT.c1
 have hlt := hT.lt
 have H0 := hid (World.ownsMap_made w Tryz.prog 3 uR)
 have hmm := @run_makeMap Tryz.prog
 have hb0 : Below w.heap.size w (w.alloc (.map #[] 0)) := (Below.refl w.heap.size w).alloc (Nat.le_refl _) _
 have HM : Hid (Mid_UseC (w.alloc (.map #[] 0)) a b w.heap.size [] L told) := by
  obtain ⟨D2, h3, h4⟩ := hT.hown
  obtain ⟨D3, T, h5, h6, h7⟩ := hT.town
  exact ⟨by omega, by omega, hT.nab, ⟨_, H0.out, rp_empty _ _⟩, ⟨D2, h3.alloc _, h4⟩, ⟨D3, T, h5.alloc _, h6, h7⟩⟩
 have HB0 := hid hb0
 clear hr hT H0 hb0
 go_enter Tryz.func53, Tryz.ntmps53
 go_wp2
 obtain ⟨x, hx⟩ : ∃ x, x = w.heap.size := ⟨_, rfl⟩
 have HX := hid hx
 rw [← hx] at HM ⊢
 generalize hW1 : w.alloc (.map #[] 0) = W1 at HM HB0 ⊢
 have hxl : x < W1.heap.size := by rw [← hW1, hx]; simp
 have HXL := hid hxl
 clear hW1 hx hxl
 go_loopw [14] (fun i wr => ∃ j : Nat, i = .int .i64 j ∧ j ≤ n ∧ Mid_UseC wr a b x (nwk (zs.take j)) (gone L (zs.take j)) told ∧ Kp [a] w wr ∧ x < wr.heap.size)
  (fun i _ => n - (numOf i).toNat)
 case atStart => exact ⟨0, rfl, by omega, by rw [List.take_zero, gone_nil]; exact HM.out, kp_of_below HB0.out _, HXL.out⟩
 case round =>
  obtain ⟨j, rfl, hj, hM, hk, hxl⟩ := hrel
  have hpa : p ∉ [a] := by simpa using HT.out.npa
  have cp := hk.cell HC.out hpa
  have lp : p < wr.heap.size := Nat.lt_of_lt_of_le hlt.1 hk.size
  by_cases hgo : j < n
  ·have e1 : decide ((j : Int) < n) = true := decide_eq_true (by omega)
   obtain ⟨bs, off, rfl, hbs, hcz⟩ := HR.out.plain (by omega)
   obtain ⟨z, hz⟩ : ∃ z, z = zs.getD j 0 := ⟨_, rfl⟩
   have hzm : zs[j]? = some z := by rw [hz, List.getD, List.getElem?_eq_getElem (by omega)]; rfl
   have hna : bs ∉ [a] := by
    obtain ⟨D, h1, _⟩ := HT.out.hown
    simpa using map_cell h1 (hcz j (by omega))
   have cz := hk.cell (hcz j (by omega)) hna
   rw [← hz] at cz
   have lz : bs < wr.heap.size := Nat.lt_of_lt_of_le hbs hk.size
   have HKZ := hid (kInt_UseB z (of_wf64_UseC (HR.out.wf z (List.mem_of_getElem? hzm))))
   have hs : zs.take (j + 1) = zs.take j ++ [z] := by rw [List.take_add_one, hzm]; rfl
   have HN : Hid (nwk (zs.take (j + 1)) = if 0 < z ∧ z ∉ nwk (zs.take j) then nwk (zs.take j) ++ [z] else nwk (zs.take j)) := by rw [Hid, hs, nwk_snoc]
   have HG : Hid (gone L (zs.take (j + 1)) = (gone L (zs.take j)).filter fun y => decide (y ≠ z)) := by rw [Hid, hs, gone_snoc]
   have HND := hid (nwk_nodup (zs.take (j + 1)))
   have HGD := hid (ris_nodup (gone_ris HT.out.ris (zs.take j)))
   have hNl : (nwk (zs.take j)).length ≤ 1000000 := Nat.le_trans (nwk_length _) (by rw [List.length_take]; omega)
   obtain ⟨N, hN⟩ : ∃ N, N = nwk (zs.take j) := ⟨_, rfl⟩
   obtain ⟨G, hG⟩ : ∃ G, G = gone L (zs.take j) := ⟨_, rfl⟩
   have HNN := hid hN
   have HGG := hid hG
   rw [← hN] at HN hNl hM
   rw [← hG] at HG HGD hM
   rw [HN.out] at HND
   have HM1 := hid hM
   have HK1 := hid hk
   clear hz hzm hs hcz hna hN hG hM hk
   by_cases hz0 : 0 < z
   ·have e2 : decide (0 < z) = true := decide_eq_true hz0
    obtain ⟨D1, o1, R1⟩ := HM1.out.nown
    obtain ⟨D2, o2, R2⟩ := HM1.out.gown
    have HO1 := hid o1
    have HO2 := hid o2
    have HR1 := hid R1
    have HR2 := hid R2
    have hpx : p ∉ [x] := by have := HX.out; simp; omega
    have HPX := hid hpx
    clear o1 o2 R1 R2 hpx hpa
    go_wp2_with (first
     | (refine wpList_mapUpdate_in _ rfl (.tmp 20) (.tmp 21) (.tmp 22) 111 rfl 3 204 (Maps.int_keyed Tryz.underlying3) Tryz.underlying111 uR x _ D1 rfl HO1.out (by simp only [maxLen]; omega) _ _ _ rfl rfl HKZ.out _ _ rfl ?_; intro w2 o3 t3; have cp2 := (kp_turned t3).cell cp HPX.out; have lp2 : p < w2.heap.size := Nat.lt_of_lt_of_le lp (kp_turned t3).size; have HO3 := hid o3; have HT3 := hid (kp_turned t3); clear o3 t3)
     | (at_delete; refine wpList_delete_own _ rfl (.tmp 26) (.tmp 27) 111 3 rfl 204 (Maps.int_keyed Tryz.underlying3) Tryz.underlying111 uR a _ D2 rfl (own_kp_UseB HO2.out HT3.out (by simpa using HM1.out.nax)) _ _ rfl HKZ.out ?_; intro w3 o4 t4; have HO4 := hid o4; have HT4 := hid (kp_turned t4); clear o4 t4))
    go_roundw
    case rel =>
     have hk3 : Kp [a] w w2 := HK1.out.trans HT3.out (fun k hk hl => by simp only [List.mem_cons, List.not_mem_nil, or_false] at hk; have := HX.out; omega)
     have hk4 : Kp [a] w w3 := hk3.trans HT4.out (fun k hk _ => hk)
     obtain ⟨D3, T, h5, h6, h7⟩ := HM1.out.town
     have hm : Mid_UseC w3 a b x (nwk (zs.take (j + 1))) (gone L (zs.take (j + 1))) told := by
      refine ⟨HM1.out.nax, HM1.out.nbx, HM1.out.nab, ?_, ?_, ⟨D3, T, own_kp_UseB (own_kp_UseB h5 HT3.out (by simpa using HM1.out.nbx)) HT4.out (by simpa using fun e : b = a => HM1.out.nab e.symm), h6, h7⟩⟩
      ·rw [HN.out]
       exact set_put HR1.out HO1.out.isMap hz0 (own_kp_UseB HO3.out HT4.out (by simpa using fun e : x = a => HM1.out.nax e.symm)) HND.out
      ·rw [HG.out]
       exact set_del HR2.out HO4.out HGD.out
     exact ⟨j + 1, by go_num, by omega, hm, hk4, Nat.lt_of_lt_of_le hxl (Nat.le_trans HT3.out.size HT4.out.size)⟩
    case measure => simp [numOf]; omega
   ·have e2 : decide (0 < z) = false := decide_eq_false hz0
    go_wp2
    go_roundw
    case rel =>
     have hg : G.filter (fun y => decide (y ≠ z)) = G := by
      rw [List.filter_eq_self]
      intro y hy
      rw [HGG.out] at hy
      have := HT.out.pos y ((mem_gone _ _ _).1 hy).1
      simp only [ne_eq, decide_not, Bool.not_eq_eq_eq_not, Bool.not_true, decide_eq_false_iff_not]
      omega
     refine ⟨j + 1, by go_num, by omega, ?_, HK1.out, hxl⟩
     rw [HN.out, HG.out, hg, if_neg (fun h => hz0 h.1)]
     exact HM1.out
    case measure => simp [numOf]; omega
  ·have hj' : j = n := by omega
   have e1 : decide ((j : Int) < n) = false := decide_eq_false (by omega)
   have hg : gone L (zs.take j) = gone L zs := by rw [List.take_of_length_le (by omega)]
   have hnw : nwk (zs.take j) = nwk zs := by rw [List.take_of_length_le (by omega)]
   rw [hg, hnw] at hM
   have HM1 := hid hM
   have HK1 := hid hk
   have HGL := hid (gone_length L zs)
   have HGR := hid (gone_ris HT.out.ris zs)
   have hGl : (gone L zs).length ≤ 1000000 := Nat.le_trans (gone_length L zs) hL
   obtain ⟨G, hG⟩ : ∃ G, G = gone L zs := ⟨_, rfl⟩
   have HGG := hid hG
   rw [← hG] at HM1 HGL HGR hGl
   obtain ⟨D2, o2, R2⟩ := HM1.out.gown
   have HH := hid (uheld_map cp o2 R2 HGR.out hGl)
   have HCP := hid cp
   clear hM hk hg hnw hG o2 R2 hj'
   go_wp2_with fail
   refine HH.out.mono ?_
   rintro e w2 ⟨v, rfl, hrow, hbel⟩
   have HROW := hid hrow
   obtain ⟨a1, c1, rfl, hl1, hle1, hmax1, hnil1, hcell1⟩ := ints_of_owns_UseC hrow
   simp only [maxLen] at hmax1
   have HCELL := hid hcell1
   have HM2 := hid (HM1.out.on hbel)
   have HB2 := hid hbel
   have HK2 := hid (HK1.out.trans (kp_of_below hbel []) (fun _ h => by cases h))
   have cp2 := (kp_of_below hbel []).cell HCP.out (by simp)
   have cq2 := HK2.out.cell HC1.out hpa
   have lp2 : p < w2.heap.size := Nat.lt_of_lt_of_le hlt.1 HK2.out.size
   have hxl2 : x < w2.heap.size := Nat.lt_of_lt_of_le hxl HB2.out.size
   have hbl : b < wr.heap.size := Nat.lt_of_lt_of_le hlt.2.2 HK1.out.size
   obtain ⟨m, hm⟩ : ∃ m, m = G.length := ⟨_, rfl⟩
   have HMM := hid hm
   rw [← hm] at hGl hle1 HROW ⊢
   clear hrow hcell1 hl1 hm HH hbel HM1 cp hnil1
   go_wp2
   go_loopw [33] (fun i wx => ∃ j : Nat, i = .int .i64 j ∧ j ≤ m ∧ Mid_UseC wx a b x (nwk zs) G (told ++ G.take j) ∧ Kp [b] w2 wx)
    (fun i _ => m - (numOf i).toNat)
   case atStart => exact ⟨0, rfl, by omega, by rw [List.take_zero, List.append_nil]; exact HM2.out, Kp.refl _ _⟩
   case round =>
    obtain ⟨i, rfl, hi, hM, hk⟩ := hrel
    have hpb : p ∉ [b] := by simpa using HT.out.npb
    have cp3 := hk.cell cp2 hpb
    have cq3 := hk.cell cq2 hpb
    have lp3 : p < wr.heap.size := Nat.lt_of_lt_of_le lp2 hk.size
    by_cases hgo2 : i < m
    ·have e2 : decide ((i : Int) < m) = true := decide_eq_true (by omega)
     obtain ⟨y, rfl⟩ : ∃ y, a1 = some y := by
      cases a1 with
      | none =>
       rcases HROW.out.2 with ⟨_, h0⟩ | ⟨g, _, _, h0, _⟩
       ·omega
       ·cases h0
      | some y => exact ⟨y, rfl⟩
     obtain ⟨g, rfl, hg1, hg2, hc⟩ := HCELL.out y rfl
     obtain ⟨z, hz⟩ : ∃ z, G[i]? = some z := ⟨_, List.getElem?_eq_getElem (by rw [← HMM.out]; exact hgo2)⟩
     have hgb : g ∉ [b] := by simp; omega
     have cz := hk.cell (hc i z hz) hgb
     have lz : g < wr.heap.size := Nat.lt_of_lt_of_le hg2 hk.size
     have HKZ := hid (kInt_UseB z (by
      have := List.mem_of_getElem? hz
      rw [HGG.out] at this
      have := HW.out z ((mem_gone _ _ _).1 this).1
      exact ⟨by omega, this.2⟩))
     obtain ⟨D3, T, o3, R3, C3⟩ := hM.town
     have HA := hid (R3 z)
     have hcnt := C3.cnt z
     have hcl : (told ++ G.take i).count z ≤ told.length + m := Nat.le_trans List.count_le_length (by rw [List.length_append, List.length_take]; omega)
     have hTl : T.length ≤ told.length + m := Nat.le_trans C3.len (by rw [List.length_append, List.length_take]; omega)
     obtain ⟨q, hq⟩ : ∃ q, q = (gt T z).getD 0 := ⟨_, rfl⟩
     have hq1 : 0 ≤ q ∧ q ≤ 2000000000 := by rw [hq, hcnt]; omega
     have HQ := hid hq
     rw [← hq] at HA
     have HZ := hid (zInt wr)
     have HO3 := hid o3
     have HR3 := hid R3
     have HC3 := hid C3
     have HM3 := hid hM
     have HK3 := hid hk
     have HTK : Hid (told ++ G.take (i + 1) = (told ++ G.take i) ++ [z]) := by rw [Hid, List.take_add_one, hz, List.append_assoc]; rfl
     clear hc hz hgb o3 R3 C3 hcnt hcl hq hM hk
     go_wp2_with (first
      | (at_lookup; refine wpList_lookup_own_UseB _ rfl (.tmp 40) (.tmp 41) 81 rfl 3 3 (Maps.int_keyed Tryz.underlying3) Tryz.underlying81 iR HZ.out _ _ (iR_mk 0) b _ D3 rfl HO3.out _ _ rfl HKZ.out ?_; intro v ps hv; rw [HA.out.2] at hv; obtain rfl := iR_inv hv; clear hv)
      | (refine wpList_mapUpdate_in _ rfl (.tmp 40) (.tmp 41) (.tmp 43) 81 rfl 3 3 (Maps.int_keyed Tryz.underlying3) Tryz.underlying81 iR b _ D3 rfl HO3.out (by simp only [maxLen]; omega) _ _ _ rfl rfl HKZ.out _ _ (iR_mk (q + 1)) ?_; intro w3 o3 t3; have HO4 := hid o3; have HT3 := hid (kp_turned t3); clear o3 t3))
     go_roundw
     case rel =>
      obtain ⟨D1, h1, h2⟩ := HM3.out.nown
      obtain ⟨D2, h3, h4⟩ := HM3.out.gown
      have hC : Cnt (Proofs.YtpbgbpcdohdecaaGreatDoor.wr T z (q + 1)) (told ++ G.take (i + 1)) := by
       rw [HTK.out, HQ.out]
       exact HC3.out.one z
      have hR := HR3.out.put HO3.out.isMap z (q + 1)
      refine ⟨i + 1, by go_num, by omega, ⟨HM3.out.nax, HM3.out.nbx, HM3.out.nab, ⟨D1, own_kp_UseB h1 HT3.out (by simpa using fun e : x = b => HM3.out.nbx e.symm), h2⟩, ⟨D2, own_kp_UseB h3 HT3.out (by simpa using HM3.out.nab), h4⟩, ⟨_, _, ptight HO4.out Tryz.underlying3 hR hC.nd, hR, hC⟩⟩, HK3.out.trans HT3.out (fun k hk _ => hk)⟩
     case measure => simp [numOf]; omega
    ·obtain rfl : i = m := by omega
     have e2 : decide ((i : Int) < i) = false := decide_eq_false (by omega)
     have hfr : wr.heap[p]? = some (.cells #[.map (some a), .map (some b)] 113 (0, 0)) := hk.var (HK2.out.var HT.out.var hpa) hpb
     have f4 := Lib.frozen_of_heap hfr 0
     have HV := hid hfr
     have HM3 := hid hM
     have HK3 := hid hk
     clear hM hk hfr
     go_wp2
     go_ret
     have hpx : p ≠ x := by have := HX.out; omega
     have hset : ∀ k, k ≠ p → (wr.setCell ⟨p, 0, none⟩ (.map (some x))).heap[k]? = wr.heap[k]? := fun k hk => Below.heap_setCell _ _ _ _ hk
     have hks : Kp [p] wr (wr.setCell ⟨p, 0, none⟩ (.map (some x))) := (Kp.refl [p] wr).set ⟨p, 0, none⟩ (by simp) _
     have hG : gone L zs = G := HGG.out.symm
     have hs1 := HK1.out.size
     refine ⟨_, rfl, ?_, ⟨x, Nat.le_of_eq HX.out.symm, ?_⟩, ?_⟩
     ·rw [hG, ← HMM.out]
      have hb1 : ∀ k, Value.ownBlock (.slice a1 i c1) = some k → w.heap.size ≤ k ∧ b < k := fun k hk => by
       have := (HROW.out.lt k hk).1
       omega
      exact hks.row (HK3.out.row (ownsRow_low HROW.out HK1.out.size) (fun k hk => by have := hb1 k hk; simp; omega)) (fun k hk => by have := hb1 k hk; simp; omega)
     ·obtain ⟨D1, h1, h2⟩ := HM3.out.nown
      obtain ⟨D3, T, h3, h4, h5⟩ := HM3.out.town
      refine ⟨hpx, HT.out.npb, fun e => HM3.out.nbx e.symm, heap_setCell_same _ _ _ _ _ _ HV.out, ⟨D1, ?_, ?_⟩, ⟨D3, T, own_kp_UseB h3 hks (by simpa using fun e : b = p => HT.out.npb e.symm), h4, ?_⟩, setOf_ris _, fun z hz => ?_⟩
      ·have := own_kp_UseB h1 hks (by simpa using fun e : x = p => hpx e.symm)
       rw [setOf, List.length_mergeSort]
       exact this
      ·exact rp_congr h2 (fun k => by rw [gt_un, gt_un]; simp only [mem_setOf, mem_nwk])
      ·rw [hG]
       rw [List.take_of_length_le (by rw [← HMM.out]; exact Nat.le_refl _)] at h5
       exact h5
      ·have := (mem_setOf zs z).1 hz
       have := of_wf64_UseC (HR.out.wf z this.2)
       omega
     ·have h1 : Kp [p, a, b] w w2 := HK2.out.mono (fun k hk _ => by simp only [List.mem_cons, List.not_mem_nil, or_false] at hk ⊢; omega)
      have h2 : Kp [p, a, b] w wr := h1.trans HK3.out (fun k hk _ => by simp only [List.mem_cons, List.not_mem_nil, or_false] at hk ⊢; omega)
      exact h2.trans hks (fun k hk _ => by simp only [List.mem_cons, List.not_mem_nil, or_false] at hk ⊢; omega)
end
section
section
variable {w0 w w' : World} {p : Nat} {X : List Nat} {L told : List Int}
def Tu (w0 : World) (p : Nat) (L told : List Int) : Th := fun w X => RowKit.Below w0.heap.size w0 w ∧ ∃ a b, Ust w p a b L told ∧ (∀ k ∈ [p, a, b], w0.heap.size ≤ k) ∧ X = [p, a, b]
theorem tu_ft (w0 : World) (p : Nat) (L told : List Int) : Ft w0.heap.size (Tu w0 p L told) := by
 refine ⟨fun {w X} h g hg => ?_, fun {w w' X Y} h hk hY hX => ?_⟩
 ·obtain ⟨_, a, b, h1, h2, rfl⟩ := h
  refine ⟨h2 g hg, ?_⟩
  simp only [List.mem_cons, List.not_mem_nil, or_false] at hg
  rcases hg with rfl | rfl | rfl
  ·exact h1.lt.1
  ·exact h1.lt.2.1
  ·exact h1.lt.2.2
 ·obtain ⟨h0, a, b, h1, h2, rfl⟩ := h
  exact ⟨h0.trans (hk.below h0.size hY), a, b, h1.kept hk (hX p (by simp)) (hX a (by simp)) (hX b (by simp)), h2, rfl⟩
theorem tu_new (hb : RowKit.Below w0.heap.size w0 w) : Calls Tryz.prog 21 #[] w fun e w' => ∃ p X, e = .returned (.pointer (some ⟨p, 0, none⟩)) ∧ Tu w0 p [] [] w' X ∧ RowKit.Below w.heap.size w w' ∧ ∀ b ∈ X, w.heap.size ≤ b :=
 (unew_any w).mono fun _ _ ⟨h1, h2, h3⟩ => by
  have hs := hb.size
  have hX : ∀ k ∈ [w.heap.size + 2, w.heap.size, w.heap.size + 1], w.heap.size ≤ k := fun k hk => by
   simp only [List.mem_cons, List.not_mem_nil, or_false] at hk
   omega
  exact ⟨_, _, h1, ⟨Below.on hb h2, _, _, h3, fun k hk => Nat.le_trans hs (hX k hk), rfl⟩, h2, hX⟩
theorem tu_now (h : Tu w0 p L told w X) (s : Option Addr) (n c : Nat) (zs : List Int) (hr : RdI .i64 w s n c zs) (hn : n ≤ 1000000) (hL : L.length ≤ 1000000) (ht : told.length ≤ 1000000000) :
  Calls Tryz.prog 53 #[.pointer (some ⟨p, 0, none⟩), .slice s n c] w fun e w' => ∃ v, e = .returned v ∧ w'.ownsRow w.heap.size 3 1 v (gone L zs).length ((gone L zs).map encZ) ∧ ∃ X', Tu w0 p (setOf zs) (told ++ gone L zs) w' X' ∧ Kp X w w' ∧ (∀ b ∈ X', b ∈ X ∨ w.heap.size ≤ b) ∧ ∀ k, v.ownBlock = some k → k ∉ X' := by
 obtain ⟨h0, a, b, h1, h2, rfl⟩ := h
 refine (unow_any h1 s n c zs hr hn hL ht).mono ?_
 rintro e w' ⟨v, rfl, ho, ⟨a', ha, h3⟩, hk⟩
 have hs := h0.size
 refine ⟨v, rfl, ho, [p, a', b], ⟨h0.trans (hk.below hs h2), a', b, h3, fun k hk => ?_, rfl⟩, hk, fun k hk => ?_, fun k hk hm => ?_⟩
 ·simp only [List.mem_cons, List.not_mem_nil, or_false] at hk
  rcases hk with rfl | rfl | rfl
  ·exact h2 _ (by simp)
  ·exact Nat.le_trans hs ha
  ·exact h2 _ (by simp)
 ·simp only [List.mem_cons, List.not_mem_nil, or_false] at hk ⊢
  rcases hk with rfl | rfl | rfl
  ·exact .inl (.inl rfl)
  ·exact .inr ha
  ·exact .inl (.inr (.inr rfl))
 ·have hlt := (ho.lt k hk).1
  obtain ⟨l1, l2, l3⟩ := h1.lt
  simp only [List.mem_cons, List.not_mem_nil, or_false] at hm
  rcases hm with rfl | rfl | rfl
  ·omega
  ·obtain ⟨D, h4, _⟩ := h3.hown
   obtain ⟨es, clock, hb, _⟩ := h4
   rcases ho.2 with ⟨rfl, _⟩ | ⟨g, cap, cur, rfl, _, hg, _⟩
   ·cases hk
   ·cases hk
    rw [hb] at hg
    cases hg
  ·omega
end
end
section
def I64p (z : Int) : Prop := -9223372036854775808 ≤ z ∧ z ≤ 9223372036854775807
structure Pn (ty : Nat) (w : World) (p : Nat) (o : Option (Int × Int)) : Prop where
 obj : w.heap[p]? = some (.cells #[.bool (pon o), .int .i64 (psr o), .int .i64 (ptk o)] ty (0, 0))
 hs : I64p (psr o)
 ht : I64p (ptk o)
variable {ty : Nat} {w u : World} {p : Nat} {o : Option (Int × Int)}
theorem Pn.lt (h : Pn ty w p o) : p < w.heap.size := (Array.getElem?_eq_some_iff.1 h.obj).1
theorem Pn.kp {X : List Nat} (h : Pn ty w p o) (hb : Kp X w u) (hX : p ∉ X) : Pn ty u p o := ⟨hb.var h.obj hX, h.hs, h.ht⟩
theorem bel_nw_PngA (w : World) (x : Obj) : RowKit.Below w.heap.size w (w.alloc x) := (Below.refl _ _).alloc (Nat.le_refl _) _
theorem pnew_any_PngA (w : World) : Calls Tryz.prog 41 #[] w fun e w' => e = .returned (.pointer (some ⟨w.heap.size, 0, none⟩)) ∧ Below w.heap.size w w' ∧ Pn 174 w' w.heap.size none := by
 go_enter Tryz.func41, Tryz.ntmps41
 go_wp2
 go_ret
 exact ⟨rfl, bel_nw_PngA w _, ⟨heap_alloc_new w _, by simp [psr, I64p], by simp [ptk, I64p]⟩⟩
end
section
variable {w : World}
theorem bel_nw_SeB (w : World) (o : Obj) : Below w.heap.size w (w.alloc o) := (Below.refl _ _).alloc (Nat.le_refl _) _
end
section
open Go Go.RowKit Go.Shelf
attribute [local go_sem] Oper.semAt_some
theorem hp_nw (w : World) (o : Obj) {k : Nat} (hk : k = w.heap.size) : (w.alloc o).heap[k]? = some o := by rw [hk]; exact heap_alloc_new w _
end
section
open Go Go.RowKit Go.Shelf
structure Se (w : World) (p : Nat) (x y P K : Int) : Prop where
 obj : w.heap[p]? = some (.cells #[.int .i64 x, .int .i64 y, .int .i64 P, .int .i64 K] 124 (0, 0))
 hx : -16777216 ≤ x ∧ x ≤ 16777216
 hy : -16777216 ≤ y ∧ y ≤ 16777216
theorem Se.lt {w : World} {p : Nat} {x y P K : Int} (h : Se w p x y P K) : p < w.heap.size := (Array.getElem?_eq_some_iff.1 h.obj).1
theorem snew_any_SeG (w : World) : Calls Tryz.prog 25 #[] w fun e w' => e = .returned (.pointer (some ⟨w.heap.size, 0, none⟩)) ∧ Se w' w.heap.size 0 0 0 0 ∧ Below w.heap.size w w' := by
 go_enter Tryz.func25, Tryz.ntmps25
 go_wp2
 go_ret
 exact ⟨rfl, ⟨hp_nw w _ rfl, by omega, by omega⟩, bel_nw_SeB w _⟩
end
section
section
variable {w0 w w' : World} {p : Nat} {X : List Nat} {o : Option (Int × Int)} {x y P K : Int}
theorem one_new (hb : RowKit.Below w0.heap.size w0 w) (h : RowKit.Below w.heap.size w w') : RowKit.Below w0.heap.size w0 w' := Below.on hb h
def Tg (w0 : World) (p : Nat) (o : Option (Int × Int)) : Th := fun w X => RowKit.Below w0.heap.size w0 w ∧ w0.heap.size ≤ p ∧ Pn 174 w p o ∧ X = [p]
theorem tg_ft (w0 : World) (p : Nat) (o : Option (Int × Int)) : Ft w0.heap.size (Tg w0 p o) := by
 refine ⟨fun {w X} h g hg => ?_, fun {w w' X Y} h hk hY hX => ?_⟩
 ·obtain ⟨_, h1, h2, rfl⟩ := h
  obtain rfl := List.mem_singleton.1 hg
  exact ⟨h1, h2.lt⟩
 ·obtain ⟨h0, h1, h2, rfl⟩ := h
  exact ⟨h0.trans (hk.below h0.size hY), h1, h2.kp hk (hX p (by simp)), rfl⟩
theorem tg_new (hb : RowKit.Below w0.heap.size w0 w) : Calls Tryz.prog 41 #[] w fun e w' => ∃ p X, e = .returned (.pointer (some ⟨p, 0, none⟩)) ∧ Tg w0 p none w' X ∧ RowKit.Below w.heap.size w w' ∧ ∀ b ∈ X, w.heap.size ≤ b :=
 (pnew_any_PngA w).mono fun _ _ ⟨h1, h2, h3⟩ => ⟨_, _, h1, ⟨one_new hb h2, hb.size, h3, rfl⟩, h2, fun b hb => by rw [List.mem_singleton.1 hb]; exact Nat.le_refl _⟩
def Ts_ThP (w0 : World) (p : Nat) (x y P K : Int) : Th := fun w X => RowKit.Below w0.heap.size w0 w ∧ w0.heap.size ≤ p ∧ Se w p x y P K ∧ X = [p]
theorem ts_ft (w0 : World) (p : Nat) (x y P K : Int) : Ft w0.heap.size (Ts_ThP w0 p x y P K) := by
 refine ⟨fun {w X} h g hg => ?_, fun {w w' X Y} h hk hY hX => ?_⟩
 ·obtain ⟨_, h1, h2, rfl⟩ := h
  obtain rfl := List.mem_singleton.1 hg
  exact ⟨h1, h2.lt⟩
 ·obtain ⟨h0, h1, h2, rfl⟩ := h
  exact ⟨h0.trans (hk.below h0.size hY), h1, ⟨hk.var h2.obj (hX p (by simp)), h2.hx, h2.hy⟩, rfl⟩
theorem ts_new (hb : RowKit.Below w0.heap.size w0 w) : Calls Tryz.prog 25 #[] w fun e w' => ∃ p X, e = .returned (.pointer (some ⟨p, 0, none⟩)) ∧ Ts_ThP w0 p 0 0 0 0 w' X ∧ RowKit.Below w.heap.size w w' ∧ ∀ b ∈ X, w.heap.size ≤ b :=
 (snew_any_SeG w).mono fun _ _ ⟨h1, h3, h2⟩ => ⟨_, _, h1, ⟨one_new hb h2, hb.size, h3, rfl⟩, h2, fun b hb => by rw [List.mem_singleton.1 hb]; exact Nat.le_refl _⟩
end
end
section
def pe (p : Addr) : Bool → Value
 | true => .iface 392 (.pointer (some p))
 | false => .nilIface
end
section
structure Sk (w : World) (p : Nat) (l : List Int) : Prop where
 ex : ∃ a n c, w.heap[p]? = some (.cells #[.slice a n c] 122 (0, 0)) ∧ Rz w a n c l
variable {w w' : World} {p : Nat} {l m : List Int} {a : Option Addr} {n c : Nat}
theorem knew_any (w : World) : Calls Tryz.prog 24 #[] w fun e w' => e = .returned (.pointer (some ⟨w.heap.size, 0, none⟩)) ∧ Below w.heap.size w w' ∧ Sk w' w.heap.size [] := by
 go_enter Tryz.func24, Tryz.ntmps24
 go_wp2
 go_ret
 exact ⟨rfl, (Below.refl _ _).alloc (Nat.le_refl _) _, ⟨none, 0, 0, heap_alloc_new w _, Rz.nil _⟩⟩
end
section
section
variable {w0 w w' : World} {p : Nat} {X : List Nat} {l m : List Int}
def zbl (a : Option Addr) (n : Nat) : List Nat := if 0 < n then a.toList.map (·.block) else []
theorem mem_zbl {a : Option Addr} {n b : Nat} : b ∈ zbl a n ↔ 0 < n ∧ ∃ x, a = some x ∧ x.block = b := by
 unfold zbl
 split
 ·rename_i h
  cases a <;> simp [h, eq_comm]
 ·rename_i h
  simp [h]
theorem Rz.kpz {a : Option Addr} {n c : Nat} (h : Rz w a n c l) {Y : List Nat} (hk : Kp Y w w') (hY : ∀ b ∈ zbl a n, b ∉ Y) : Rz w' a n c l := by
 refine ⟨h.len, h.le, h.max, h.hnil, fun h0 => ?_⟩
 obtain ⟨b, off, rfl, hb, hc⟩ := h.pl h0
 exact ⟨b, off, rfl, Nat.lt_of_lt_of_le hb hk.size, fun j z hz => hk.cell (hc j z hz) (hY b (mem_zbl.2 ⟨h0, _, rfl, rfl⟩))⟩
def Tk (w0 : World) (p : Nat) (l : List Int) : Th := fun w X => RowKit.Below w0.heap.size w0 w ∧ w0.heap.size ≤ p ∧ ∃ a n c, w.heap[p]? = some (.cells #[.slice a n c] 122 (0, 0)) ∧ Rz w a n c l ∧ (∀ b ∈ zbl a n, w0.heap.size ≤ b) ∧ X = p :: zbl a n
theorem tk_ft (w0 : World) (p : Nat) (l : List Int) : Ft w0.heap.size (Tk w0 p l) := by
 refine ⟨fun {w X} h g hg => ?_, fun {w w' X Y} h hk hY hX => ?_⟩
 ·obtain ⟨_, h1, a, n, c, h2, h3, h4, rfl⟩ := h
  rcases List.mem_cons.1 hg with rfl | hg
  ·exact ⟨h1, (Array.getElem?_eq_some_iff.1 h2).1⟩
  ·refine ⟨h4 g hg, ?_⟩
   obtain ⟨h0, x, rfl, rfl⟩ := mem_zbl.1 hg
   obtain ⟨b, off, e, hb, _⟩ := h3.pl h0
   cases e
   exact hb
 ·obtain ⟨h0, h1, a, n, c, h2, h3, h4, rfl⟩ := h
  exact ⟨h0.trans (hk.below h0.size hY), h1, a, n, c, hk.var h2 (hX p (by simp)), h3.kpz hk (fun b hb => hX b (List.mem_cons_of_mem _ hb)), h4, rfl⟩
theorem tk_new (hb : RowKit.Below w0.heap.size w0 w) : Calls Tryz.prog 24 #[] w fun e w' => ∃ p X, e = .returned (.pointer (some ⟨p, 0, none⟩)) ∧ Tk w0 p [] w' X ∧ RowKit.Below w.heap.size w w' ∧ ∀ b ∈ X, w.heap.size ≤ b := by
 refine (knew_any w).mono ?_
 rintro e w' ⟨h1, h2, h3⟩
 obtain ⟨a, n, c, h4, h5⟩ := h3.ex
 obtain rfl : n = 0 := h5.len.symm
 exact ⟨_, _, h1, ⟨Below.on hb h2, hb.size, a, 0, c, h4, h5, by simp [zbl], rfl⟩, h2, fun b hb => by
  simp only [zbl, Nat.lt_irrefl, if_false, List.mem_cons, List.not_mem_nil, or_false] at hb
  rw [hb]
  exact Nat.le_refl _⟩
end
end
section
variable {a b : Rc}
theorem cut_sum (ka : Ck a) (kb : Ck b) : cut a b = oft (max a.x b.x) (max a.y b.y) (min (a.x + a.w) (b.x + b.w)) (min (a.y + a.h) (b.y + b.h)) := by
 rw [cut_full ka.emp kb.emp, ka.enx, ka.eny, kb.enx, kb.eny]
theorem cut_self (ka : Ck a) : cut a a = a := by
 rw [cut_sum ka ka]
 obtain ⟨k1, k2, k3, k4, k5, k6⟩ := ka
 rw [oft_full (by omega) (by omega)]
 cases a
 rw [Rc.mk.injEq]
 dsimp only
 omega
theorem bnd_ck (ka : Ck a) : bnd a = a := by
 have h := dck_iff.2 ka
 rw [← chk_dck ka.ok, chk_RectD, Bool.and_eq_true, rceq_iff] at h
 exact h.2
theorem cut_two (ka : Ck a) (kb : Ck b) : cut a b = rz ∨ (cut a b = ⟨max a.x b.x, max a.y b.y, min (a.x + a.w) (b.x + b.w) - max a.x b.x, min (a.y + a.h) (b.y + b.h) - max a.y b.y⟩ ∧ max a.x b.x < min (a.x + a.w) (b.x + b.w) ∧ max a.y b.y < min (a.y + a.h) (b.y + b.h)) := by
 rw [cut_sum ka kb]
 by_cases h1 : min (a.x + a.w) (b.x + b.w) ≤ max a.x b.x
 ·exact .inl (oft_left h1)
 ·by_cases h2 : min (a.y + a.h) (b.y + b.h) ≤ max a.y b.y
  ·exact .inl (oft_top h2)
  ·exact .inr ⟨oft_full h1 h2, Int.not_le.1 h1, Int.not_le.1 h2⟩
theorem cut_rz (ka : Ck a) (kb : Ck b) (he : emp (cut a b) = true) : cut a b = rz := by
 rcases cut_two ka kb with h | ⟨h, h1, h2⟩
 ·exact h
 ·rw [h] at he
  simp [emp] at he
  omega
theorem cut_ck (ka : Ck a) (kb : Ck b) (he : emp (cut a b) = false) : Ck (cut a b) := by
 rcases cut_two ka kb with h | ⟨h, h1, h2⟩
 ·rw [h] at he
  exact absurd he (by decide)
 ·rw [h]
  obtain ⟨k1, k2, k3, k4, k5, k6⟩ := ka
  obtain ⟨l1, l2, l3, l4, l5, l6⟩ := kb
  exact ⟨by dsimp only; omega, by dsimp only; omega, by dsimp only; omega, by dsimp only; omega, by dsimp only; omega, by dsimp only; omega⟩
end
section
variable {a b : Rc}
theorem rz_ok : rz.Ok := ⟨by decide, by decide, by decide, by decide⟩
theorem has_emp (h : emp a = true) (x y : Int) : has a x y = false := by simp [has, h]
theorem has_rz (x y : Int) : has rz x y = false := has_emp rfl x y
theorem cut_ok (ha : may a = true) (hb : may b = true) : (cut a b).Ok := by
 rcases may_cases ha with he | ka
 ·rw [cut_emp1 he]; exact rz_ok
 ·rcases may_cases hb with hf | kb
  ·rw [cut_emp2 a hf]; exact rz_ok
  ·cases hc : emp (cut a b)
   ·exact (cut_ck ka kb hc).ok
   ·rw [cut_rz ka kb hc]; exact rz_ok
theorem bnd_may (ha : may a = true) : emp a = true ∧ bnd a = rz ∨ bnd a = a := by
 rcases may_cases ha with he | ka
 ·exact .inl ⟨he, bnd_emp he⟩
 ·exact .inr (bnd_ck ka)
theorem has_bnd (ha : may a = true) (x y : Int) : has (bnd a) x y = has a x y := by
 rcases bnd_may ha with ⟨he, h⟩ | h
 ·rw [h, has_rz, has_emp he]
 ·rw [h]
theorem has_cut (ha : may a = true) (hb : may b = true) (x y : Int) : has (cut a b) x y = (has a x y && has b x y) := by
 rcases may_cases ha with he | ka
 ·rw [cut_emp1 he, has_rz, has_emp he]; rfl
 ·rcases may_cases hb with hf | kb
  ·rw [cut_emp2 a hf, has_rz, has_emp hf, Bool.and_false]
  ·apply Bool.eq_iff_iff.2
   rw [Bool.and_eq_true, has_iff, has_iff, has_iff]
   have s := cut_sum ka kb
   obtain ⟨k1, k2, k3, k4, k5, k6⟩ := ka
   obtain ⟨l1, l2, l3, l4, l5, l6⟩ := kb
   rw [s]
   by_cases h1 : min (a.x + a.w) (b.x + b.w) ≤ max a.x b.x
   ·rw [oft_left h1]
    simp only [rz]
    omega
   ·by_cases h2 : min (a.y + a.h) (b.y + b.h) ≤ max a.y b.y
    ·rw [oft_top h2]
     simp only [rz]
     omega
    ·rw [oft_full h1 h2]
     dsimp only
     omega
end
section
theorem may_rz : may rz = true := by decide
theorem may_of {a : Rc} (h : a = rz ∨ Ck a) : may a = true := by
 rcases h with rfl | h
 ·exact may_rz
 ·simp [may, dck_iff.2 h]
structure El (u : World) (b o : Nat) (r : Rc) : Prop where
 lt : b < u.heap.size
 c0 : u.cell? ⟨b, o, none⟩ = some (.int .i64 r.x)
 c1 : u.cell? ⟨b, o + 1, none⟩ = some (.int .i64 r.y)
 c2 : u.cell? ⟨b, o + 2, none⟩ = some (.int .i64 r.w)
 c3 : u.cell? ⟨b, o + 3, none⟩ = some (.int .i64 r.h)
theorem El.on {w u : World} {b o : Nat} {r : Rc} (h : El w b o r) (hb : Below w.heap.size w u) : El u b o r :=
 ⟨Nat.lt_of_lt_of_le h.lt hb.size, by rw [hb.cell h.lt]; exact h.c0, by rw [hb.cell h.lt]; exact h.c1, by rw [hb.cell h.lt]; exact h.c2, by rw [hb.cell h.lt]; exact h.c3⟩
end
end Go.Proofs.YtpbgbpcdohdecaaGreatDoor
