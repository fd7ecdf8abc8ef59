/- The program's forest: Sub. -/
import Derived.Test.YtdgknofpkafppabDoorBe
import Derived.Laws.CopyOwn
import Derived.Maps.RangeWalk
import Derived.Test.YtdgknofpkafppabDoorBc
import Derived.Test.YtdgknofpkafppabDoorBd
import Derived.Laws.EntriesVeiled
namespace Go.Proofs.YtdgknofpkafppabDoor
open Go Go.RowKit

variable {base : Nat} {w0 w w' : World} {p m : Nat} {L L' : Po} {F : Fo} {id : Int} {es : List Addr} {e : Ps}
theorem upd_upd (F : Fo) (x : Int) (f g : Sf → Sf) : upd (upd F x f) x g = upd F x (fun s => g (f s)) := by
  cases h : gt F x with
  | none => rw [upd, upd, upd, h]; simp [h]
  | some s =>
    rw [upd, gt_upd, if_pos rfl, h]
    simp only [Option.map_some]
    rw [upd, h, upd, h]
    simp only [st, List.map_map]
    refine List.map_congr_left fun e _ => ?_
    simp only [Function.comp]
    split
    · simp
    · rfl
theorem upd_at {F : Fo} {x : Int} {s : Sf} (h : gt F x = some s) {f g : Sf → Sf} (hf : f s = g s) : upd F x f = upd F x g := by rw [upd, upd, h]; simp only [hf]

/-- What Sub leaves: both surfaces are there, the first is nobody's and not above the other. -/
theorem Pf.subbed (h : Pf base w p m L) {y : Int} {e ep : Ps} (he : gt L id = some e) (hep : gt L y = some ep) (hne : y ≠ id) (h0 : subE (pab L) id y = 0) {w1 : World} (hb : Below w.heap.size w w1) :
    ∃ W1 L1, W1 = (w1.setCell ⟨e.g, 30, none⟩ (.int .i64 y)).setCell ⟨e.g, 31, none⟩ (.bool true) ∧ Pf base W1 p m L1 ∧ gt L1 y = some ep ∧ Below base w W1 ∧
      ∀ (W2 : World) (l : Sl), l.l = sg (dr id (un1 (lat ep.s.f)) ++ [id]) → ∀ L2, PfR base W1 p m L1 (upd (pab L1) y (ordS l.l)) W2 L2 → L2 = st L1 y ⟨ep.g, { ep.s with pe := { ep.s.pe with ord := true, od := l } }⟩ →
        ∀ (W3 : World) (v : Value), OwM 3 55 W2 W3 v (put1 ep.s.pe.pl.l [id, 0, 0]) → ∃ k : Sl, v = .slice k.a k.n k.c ∧ W3.cell? ⟨ep.g, 9, none⟩ = some (.slice ep.s.pe.pl.a ep.s.pe.pl.n ep.s.pe.pl.c) ∧ (∀ j, W3.frozen? ⟨ep.g, j, none⟩ = false) ∧ ep.g < W3.heap.size ∧ ∃ L', PfR base w p m L (subF (pab L) id y) (W3.setCell ⟨ep.g, 9, none⟩ (.slice k.a k.n k.c)) L' := by
  have hr1 := h.putPS he hb y true
  have hep1 : gt (st L id ⟨e.g, { e.s with par := y, syn := true }⟩) y = some ep := by rw [gt_st, if_neg hne]; exact hep
  refine ⟨_, _, rfl, hr1.pf, hep1, hr1.bel h, fun W2 l hl L2 hr2 hL2 W3 v ho => ?_⟩
  obtain ⟨k, rfl, hn, hk, hrd, hown⟩ := own_sl ho.own rfl ho.size
  have hep2 : gt L2 y = some ⟨ep.g, { ep.s with pe := { ep.s.pe with ord := true, od := l } }⟩ := by
    rw [hL2, gt_st, if_pos rfl, hep1]
    rfl
  have h2 := hr2.pf
  have h3 := h2.on ho.bel
  have hfz := h3.fz hep2
  have hwl := (h3.wlt hep2 (mem_wb.2 (.inl rfl))).2
  refine ⟨k, rfl, h3.cell hep2, hfz, hwl, _, ((hr1.trans hr2).trans (h2.putPl hep2 ho.bel k hrd hown (plcS [id, 0, 0]) ?_)).as ?_⟩
  · simp only [Sr.f, Sx.q, plcS, hk]
  · rw [hr2.ab, hr1.ab, upd_upd, subF, if_pos h0]
    refine upd_at (s := ep.s.f) (by rw [← hr1.ab, gt_pab, hep1]; rfl) ?_
    rw [hl]

set_option maxRecDepth 100000 in
set_option maxHeartbeats 1000000 in
theorem fsub_any (hE : Fe w es) (hB : 16 ≤ base) (h : Pf base w p m L) (hN : Nok L) (hL : Few L) (id y : Int) (hi : Bt id) (hj : Bt y) :
    Calls Tryd.prog 7 #[.pointer (some ⟨p, 0, none⟩), .int .i64 id, .int .i64 y] w fun e w' => e = .returned (erv es (subE (pab L) id y)) ∧ ∃ L', PfR base w p m L (subF (pab L) id y) w' L' := by
  have HF := hid (ffind_any hE h id hi)
  have HNO : Hid (∀ k, subE (pab L) id y = k → k ≠ 0 → ∀ q, PfR base w p m L (subF (pab L) id y) (w.drewN q) L) := fun k hk h0 q => (PfR.refl h (below_drewN (Below.refl _ _) q)).as (by rw [subF, if_neg (by rw [hk]; exact h0)])
  have HF2 : Hid (∀ q, Calls Tryd.prog 14 #[.pointer (some ⟨p, 0, none⟩), .int .i64 y] (w.drewN q) fun e w' => e = .returned (.tuple #[ptv (pto L y), erv es (hasE (pab L) y)]) ∧ ∃ q, w' = w.drewN q) := fun q => (ffind_any (hE.drewN q) (h.drewN q) y hj).mono fun e w' ⟨h1, q1, h2⟩ => ⟨h1, q + q1, by rw [h2]; simp⟩
  cases hq : gt L id with
  | none =>
    have HS : Hid (pto L id = none ∧ hasE (pab L) id = 5) := ⟨by rw [pto, hq]; rfl, by rw [hasE, gt_pab, hq]; rfl⟩
    have HV : Hid (subE (pab L) id y = 5) := by rw [Hid, subE, gt_pab, hq]; rfl
    have HX := hid (HNO.out 5 HV.out (by decide))
    rw [HS.out.1, HS.out.2] at HF
    rw [HV.out]
    clear hq h hE HS HNO HV hN hL HF2
    go_enter Tryd.func7, Tryd.ntmps7
    go_wp2_with fail
    refine HF.out.mono ?_
    rintro e w1 ⟨rfl, q1, rfl⟩
    rw [ptv_none, erv_succ]
    go_wp2
    go_ret
    exact ⟨rfl, _, HX.out q1⟩
  | some e =>
    have HS : Hid (pto L id = some e.g ∧ hasE (pab L) id = 0) := ⟨by rw [pto, hq]; rfl, by rw [hasE, gt_pab, hq]; rfl⟩
    rw [HS.out.1, HS.out.2] at HF
    clear HS
    cases hp : gt L y with
    | none =>
      have HS : Hid (pto L y = none ∧ hasE (pab L) y = 5) := ⟨by rw [pto, hp]; rfl, by rw [hasE, gt_pab, hp]; rfl⟩
      have HV : Hid (subE (pab L) id y = 5) := by rw [Hid, subE, gt_pab, gt_pab, hq, hp]; rfl
      have HX := hid (HNO.out 5 HV.out (by decide))
      rw [HS.out.1, HS.out.2] at HF2
      rw [HV.out]
      clear hq h hE HS HNO HV hN hL hp
      go_enter Tryd.func7, Tryd.ntmps7
      go_wp2_with fail
      refine HF.out.mono ?_
      rintro e w1 ⟨rfl, q1, rfl⟩
      rw [ptv_some, erv0]
      go_wp2_with fail
      refine (HF2.out q1).mono ?_
      rintro e w1 ⟨rfl, q2, rfl⟩
      rw [ptv_none, erv_succ]
      go_wp2
      go_ret
      exact ⟨rfl, _, HX.out q2⟩
    | some ep =>
      have HS : Hid (pto L y = some ep.g ∧ hasE (pab L) y = 0) := ⟨by rw [pto, hp]; rfl, by rw [hasE, gt_pab, hp]; rfl⟩
      rw [HS.out.1, HS.out.2] at HF2
      have hV : subE (pab L) id y = if e.s.par ≠ 0 then 10 else if anc (pab L) y id then 11 else 0 := by rw [subE, gt_pab, gt_pab, hq, hp]; rfl
      have c1 : w.cell? ⟨e.g, 30, none⟩ = some (.int .i64 e.s.par) := h.cell hq
      have c2 : w.cell? ⟨e.g, 31, none⟩ = some (.bool e.s.syn) := h.cell hq
      have f1 := h.fz hq
      have hlt := (h.wlt hq (mem_wb.2 (.inl rfl))).2
      cases h0 : (e.s.par != 0)
      · have h0' : e.s.par = 0 := by simpa using h0
        have HW : Hid (∀ q, Calls Tryd.prog 15 #[.pointer (some ⟨p, 0, none⟩), .int .i64 y, .int .i64 id] (w.drewN q) fun e w' => e = .returned (.bool (anc (pab L) y id)) ∧ ∃ q, w' = w.drewN q) := fun q => (fwithin_any (hE.drewN q) (h.drewN q) hN y id (by rw [hp]; rfl)).mono fun e w' ⟨h1, q1, h2⟩ => ⟨h1, q + q1, by rw [h2]; simp⟩
        rw [if_neg (by simpa using h0')] at hV
        cases ha : anc (pab L) y id
        · rw [ha] at hV HW
          have hne : y ≠ id := fun e1 => by
            rw [anc_some (s := ep.s.f) (by rw [gt_pab, hp]; rfl), e1] at ha
            simp at ha
          have HS2 := hid (fun q => h.subbed hq hp hne hV (w1 := w.drewN q) (below_drewN (Below.refl _ _) q))
          have HV : Hid (subE (pab L) id y = 0) := hV
          have HE := hid hE
          have hln := hL.lat hp
          have hpn : ep.s.pe.pl.n ≤ 900000 := (hL _ _ hp).1.2.2.2.2
          rw [HV.out]
          clear hq h hE HS HNO hN hL hp h0' ha HV hV hne
          go_enter Tryd.func7, Tryd.ntmps7
          go_wp2_with fail
          refine HF.out.mono ?_
          rintro e' w1 ⟨rfl, q1, rfl⟩
          rw [ptv_some, erv0]
          go_wp2_with fail
          refine (HF2.out q1).mono ?_
          rintro e' w1 ⟨rfl, q2, rfl⟩
          rw [ptv_some, erv0]
          go_wp2_with fail
          refine (HW.out q2).mono ?_
          rintro e' w1 ⟨rfl, q3, rfl⟩
          obtain ⟨W1, L1, hW1, hP1, hg1, hbl1, hfin⟩ := HS2.out q3
          have HW1 := hid hW1
          have HP1 := hid hP1
          have HG1 := hid hg1
          have HFIN := hid hfin
          have HE1 := hid (HE.out.kb hbl1 hB)
          clear hW1 hP1 hg1 hbl1 hfin HS2 HF HF2 HW
          go_upto_region 12 with fail
          rw [← HW1.out]
          clear c1 c2 f1 HW1 hlt
          go_wp2_with fail
          refine (flatest_any HP1.out HG1.out).mono ?_
          rintro e' w2 ⟨rfl, rfl⟩
          rw [Sl.v]
          have hrz := rz_of_rdm (latS_ok (HP1.out.rows _ _ HG1.out).ok)
          rw [un1_lat] at hrz
          have HT := hid (otop_any _ _ _ _ id w2 _ HE1.out.pl hrz (by omega))
          clear hrz
          go_wp2_with fail
          refine HT.out.mono ?_
          rintro e' w3 ⟨v3, rfl, ho3⟩
          obtain ⟨l3, rfl, hl1, hl2, hl3⟩ := sl_of_owz ho3
          have HR := hid (freorder_any HP1.out HG1.out ho3.bel l3 hl2 (fun y hy _ => hl3 y hy))
          have HL3 := hid hl1
          clear ho3 hl1 hl2 hl3 HT
          go_wp2_with fail
          refine HR.out.mono ?_
          rintro e' w4 ⟨rfl, hr4⟩
          have hg4 : gt (st L1 y ⟨ep.g, { ep.s with pe := { ep.s.pe with ord := true, od := l3 } }⟩) y = some ⟨ep.g, { ep.s with pe := { ep.s.pe with ord := true, od := l3 } }⟩ := by
            rw [gt_st, if_pos rfl, HG1.out]
            rfl
          have d1 : w4.cell? ⟨ep.g, 9, none⟩ = some (.slice ep.s.pe.pl.a ep.s.pe.pl.n ep.s.pe.pl.c) := hr4.pf.cell hg4
          have hl4 := (hr4.pf.wlt hg4 (mem_wb.2 (.inl rfl))).2
          have HPT := hid (sput_any _ _ _ _ id 0 0 w4 (hr4.pf.rows _ _ hg4).ok.pe.pl hpn)
          have HF4 := hid (HFIN.out w4 l3 HL3.out _ hr4 rfl)
          clear hr4 hg4 HFIN HR HL3
          go_wp2_with fail
          refine HPT.out.mono ?_
          rintro e' w5 ⟨v5, rfl, ho5⟩
          obtain ⟨k5, rfl, d2, d3, d4, d5⟩ := HF4.out w5 v5 ho5
          have HX := hid d5
          clear d5 ho5 HPT HF4 d1
          go_wp2
          go_ret
          exact ⟨rfl, HX.out⟩
        · rw [ha] at hV HW
          have HV : Hid (subE (pab L) id y = 11) := hV
          have HX := hid (HNO.out 11 HV.out (by decide))
          have c5 := hE.plc
          have l5 := World.block_lt_of_cell? _ _ c5
          rw [HV.out]
          clear hq h hE HS HNO hN hL hp h0' ha HV hV
          go_enter Tryd.func7, Tryd.ntmps7
          go_wp2_with fail
          refine HF.out.mono ?_
          rintro e' w1 ⟨rfl, q1, rfl⟩
          rw [ptv_some, erv0]
          go_wp2_with fail
          refine (HF2.out q1).mono ?_
          rintro e' w1 ⟨rfl, q2, rfl⟩
          rw [ptv_some, erv0]
          go_wp2_with fail
          refine (HW.out q2).mono ?_
          rintro e' w1 ⟨rfl, q3, rfl⟩
          go_wp2
          go_ret
          exact ⟨rfl, _, HX.out q3⟩
      · have h0' : e.s.par ≠ 0 := by simpa using h0
        have HV : Hid (subE (pab L) id y = 10) := by rw [Hid, hV, if_pos h0']
        have HX := hid (HNO.out 10 HV.out (by decide))
        have c5 := hE.rol
        have l5 := World.block_lt_of_cell? _ _ c5
        rw [HV.out]
        clear hq h hE HS HNO hN hL hp h0' HV hV
        go_enter Tryd.func7, Tryd.ntmps7
        go_wp2_with fail
        refine HF.out.mono ?_
        rintro e' w1 ⟨rfl, q1, rfl⟩
        rw [ptv_some, erv0]
        go_wp2_with fail
        refine (HF2.out q1).mono ?_
        rintro e' w1 ⟨rfl, q2, rfl⟩
        rw [ptv_some, erv0]
        go_wp2
        go_ret
        exact ⟨rfl, _, HX.out q2⟩
end Go.Proofs.YtdgknofpkafppabDoor

/- The program's slices.DeleteFunc on children, where they lie. -/
namespace Go.Proofs.YtdgknofpkafppabDoor
open Go Go.RowKit

/-- DeleteFunc's state. -/
structure Dm {α : Type} (p : α → Bool) (l L : List α) (i j : Nat) : Prop where
  len : L.length = l.length
  ij : i < j
  fst : L.take i = (l.take j).filter fun r => !p r
  snd : L.drop j = l.drop j
section
variable {α : Type} {p : α → Bool} {l L : List α} {i j : Nat}
theorem Dm.skip (h : Dm p l L i j) {r : α} (hr : l[j]? = some r) (he : p r = true) : Dm p l L i (j + 1) := by
  refine ⟨h.len, by have := h.ij; omega, ?_, ?_⟩
  · rw [h.fst, List.take_add_one, hr, List.filter_append]
    simp [he]
  · have := congrArg List.tail h.snd
    simpa using this
theorem Dm.keep (h : Dm p l L i j) {r : α} (hr : l[j]? = some r) (he : p r = false) : Dm p l (L.set i r) (i + 1) (j + 1) := by
  have hij := h.ij
  have hj : j < l.length := (List.getElem?_eq_some_iff.1 hr).1
  have hl := h.len
  refine ⟨by rw [List.length_set]; exact hl, by omega, ?_, ?_⟩
  · have e : (L.set i r).take (i + 1) = L.take i ++ [r] := by
      rw [List.take_add_one, List.take_set_of_le (Nat.le_refl _), List.getElem?_set_self (by omega)]
      rfl
    rw [e, h.fst, List.take_add_one, hr, List.filter_append]
    simp [he]
  · rw [List.drop_set_of_lt (by omega)]
    have := congrArg List.tail h.snd
    simpa using this
end
theorem Dm.start {k : Int} {l : List (List Int)} {i : Nat} (h : ixf k l = some i) : Dm (fun y => hd y == k) l l i (i + 1) ∧ i < l.length := by
  have hw : ∀ (l : List (List Int)) (i : Nat), ixf k l = some i → ∃ y, l[i]? = some y ∧ hd y = k ∧ ∀ (j : Nat) z, j < i → l[j]? = some z → hd z ≠ k := by
    intro l
    induction l with
    | nil => intro i h; cases h
    | cons x l ih =>
      intro i h
      rw [ixf] at h
      split at h
      · rename_i hx
        cases h
        exact ⟨x, rfl, hx, fun j z hj => absurd hj (by omega)⟩
      · rename_i hx
        obtain ⟨m, hm, rfl⟩ := Option.map_eq_some_iff.1 h
        obtain ⟨y, h1, h2, h3⟩ := ih m hm
        refine ⟨y, by simpa using h1, h2, fun j z hj hz => ?_⟩
        cases j with
        | zero => simp at hz; subst hz; exact hx
        | succ j => exact h3 j z (by omega) (by simpa using hz)
  obtain ⟨y, h1, h2, h3⟩ := hw l i h
  refine ⟨⟨rfl, by omega, ?_, rfl⟩, (List.getElem?_eq_some_iff.1 h1).1⟩
  rw [List.take_add_one, h1, List.filter_append]
  have : (l.take i).filter (fun y => !(hd y == k)) = l.take i := List.filter_eq_self.2 fun x hx => by
    obtain ⟨j, hj⟩ := List.mem_iff_getElem?.1 hx
    have hji : j < i := by
      have := (List.getElem?_eq_some_iff.1 hj).1
      rw [List.length_take] at this
      omega
    rw [List.getElem?_take_of_lt hji] at hj
    simpa using h3 j x hji hj
  rw [this]
  simp [h2]
theorem outL_eq (k : Int) (l : List (List Int)) : outL k l = l.filter fun y => !(hd y == k) := rfl
theorem outL_none {k : Int} {l : List (List Int)} (h : ixf k l = none) : outL k l = l := List.filter_eq_self.2 fun y hy => by simpa using (ixf_none h).1 y hy

/-- A row of children that is written where it lies. -/
structure Rw (base : Nat) (u0 u : World) (g n c : Nat) (l : List (List Int)) : Prop where
  own : u.ownsRow base 55 3 (.slice (some ⟨g, 0, none⟩) n c) n (mcs l)
  kp : Kp [g] u0 u
  size : ∀ y ∈ l, y.length = 3
  len : l.length = n
variable {base : Nat} {u0 u u' : World} {g n c : Nat} {l : List (List Int)}
theorem Rw.on (h : Rw base u0 u g n c l) (hb : Below u.heap.size u u') : Rw base u0 u' g n c l := ⟨ownsRow_below h.own hb, h.kp.trans (kp_of_below hb [g]) (fun _ hk _ => hk), h.size, h.len⟩
theorem mcs_st3 {l : List (List Int)} (hs : ∀ y ∈ l, y.length = 3) {j : Nat} (hj : j < l.length) (z0 z1 z2 : Int) : mcs (l.set j [z0, z1, z2]) = (((mcs l).set (j * 3) (.int .i64 z0)).set (j * 3 + 1) (.int .i64 z1)).set (j * 3 + 2) (.int .i64 z2) := by
  induction l generalizing j with
  | nil => simp at hj
  | cons x l ih =>
    match x, hs x List.mem_cons_self with
    | [a, b, d], _ =>
      cases j with
      | zero => simp [mcs_cons]
      | succ j =>
        rw [List.set_cons_succ, mcs_cons, mcs_cons, ih (fun y hy => hs y (List.mem_cons_of_mem _ hy)) (by simpa using hj), show (j + 1) * 3 = j * 3 + 3 by omega]
        simp only [show j * 3 + 3 + 1 = j * 3 + 1 + 3 by omega, show j * 3 + 3 + 2 = j * 3 + 2 + 3 by omega, List.map_cons, List.map_nil, List.cons_append, List.nil_append, List.set_cons_succ]
/-- A child written at a place of a block. -/
def sto3b (u : World) (g o : Nat) (z0 z1 z2 : Int) : World := ((u.setCell ⟨g, o, none⟩ (.int .i64 z0)).setCell ⟨g, o + 1, none⟩ (.int .i64 z1)).setCell ⟨g, o + 2, none⟩ (.int .i64 z2)
theorem Rw.sto (h : Rw base u0 u g n c l) {j : Nat} (hj : j < n) (z0 z1 z2 : Int) : Rw base u0 (sto3b u g (j * 3) z0 z1 z2) g n c (l.set j [z0, z1, z2]) := by
  have h2 := (h.own.stored (j * 3) (.int .i64 z0)).1
  have h3 := (h2.stored (j * 3 + 1) (.int .i64 z1)).1
  have h4 := (h3.stored (j * 3 + 2) (.int .i64 z2)).1
  refine ⟨?_, ((h.kp.s1 _ _).s1 _ _).s1 _ _, fun y hy => ?_, by rw [List.length_set]; exact h.len⟩
  · rw [mcs_st3 h.size (by rw [h.len]; exact hj)]
    exact h4
  · rcases List.mem_or_eq_of_mem_set hy with hy | rfl
    · exact h.size y hy
    · rfl
theorem Rw.fz (h : Rw base u0 u g n c l) (k : Nat) : u.frozen? ⟨g, k, none⟩ = false := h.own.frozenAt k
theorem Rw.el (h : Rw base u0 u g n c l) {j : Nat} {z0 z1 z2 : Int} (hj : l[j]? = some [z0, z1, z2]) : u.cell? ⟨g, j * 3, none⟩ = some (.int .i64 z0) ∧ u.cell? ⟨g, j * 3 + 1, none⟩ = some (.int .i64 z1) ∧ u.cell? ⟨g, j * 3 + 2, none⟩ = some (.int .i64 z2) := by
  have hl : j < n := by rw [← h.len]; exact (List.getElem?_eq_some_iff.1 hj).1
  refine ⟨?_, ?_, ?_⟩
  · have := h.own.cellAt (j * 3) (by omega)
    rw [this]
    exact mcs_at (i := 0) h.size hj rfl
  · rw [h.own.cellAt _ (by omega)]
    exact mcs_at (i := 1) h.size hj rfl
  · rw [h.own.cellAt _ (by omega)]
    exact mcs_at (i := 2) h.size hj rfl
theorem Rw.lt (h : Rw base u0 u g n c l) : g < u.heap.size := (h.own.lt g rfl).2
theorem Rw.at3 (h : Rw base u0 u g n c l) {j : Nat} (hj : j < n) : ∃ z0 z1 z2, l[j]? = some [z0, z1, z2] := by
  obtain ⟨y, hy⟩ : ∃ y, l[j]? = some y := ⟨_, List.getElem?_eq_getElem (by rw [h.len]; exact hj)⟩
  match y, h.size y (List.mem_of_getElem? hy) with
  | [a, b, d], _ => exact ⟨a, b, d, hy⟩
/-- 'clear' of what is behind the first i. -/
theorem Rw.clear (h : Rw base u0 u g n c l) {i : Nat} (hi : i < n) :
    ∃ u', (∀ (ty : TypeId) (c' : Nat), (Builtin.clear_ #[41] ty #[.slice (some ⟨g, i * 3, none⟩) (n - i) c']).run Tryd.prog u = .ok (.tuple #[]) u') ∧ Rw base u0 u' g i c (l.take i) := by
  have hv : ∀ w', (zeroValue 55).run Tryd.prog w' = .ok (.agg #[.int .i64 0, .int .i64 0, .int .i64 0]) w' := Tryd.zeroValue55
  have own := h.own
  have hn := h.len
  rcases own.2 with ⟨e0, _⟩ | ⟨g', cap, cur, e0, hb, hg, hnc, hm, hcs, ht⟩
  · cases e0
  · cases e0
    obtain ⟨Z, hZ⟩ : ∃ Z, Z = (Builtin.zeroCells (Value.agg #[.int .i64 0, .int .i64 0, .int .i64 0]).cells (n - i)).toList := ⟨_, rfl⟩
    have hZl : Z.length = (n - i) * 3 := by rw [hZ]; simp [size_zeroCells, Value.cells]
    have hZ1 : ∀ v ∈ Z, v.oneCell' = true := fun v hv => by
      rw [hZ] at hv
      simp only [Builtin.zeroCells, Value.cells, List.size_toArray, List.length_cons, List.length_nil, Array.toList_map, List.mem_map] at hv
      obtain ⟨k, _, rfl⟩ := hv
      obtain h | h | h : k % (0 + 1 + 1 + 1) = 0 ∨ k % (0 + 1 + 1 + 1) = 1 ∨ k % (0 + 1 + 1 + 1) = 2 := by omega
      all_goals
        rw [h]
        rfl
    have hst := run_storeCells_at Tryd.prog g (i * 3) 55 Z 0 cur u hg (by rw [hZl, hcs]; omega) hZ1
    have hsz : ∀ y ∈ l.take i, y.length = 3 := fun y hy => h.size y (List.mem_of_mem_take hy)
    have hlt : (mcs (l.take i)).length = i * 3 := by rw [mcs_length hsz, List.length_take]; omega
    have hpre : cur.toList.take (i * 3) = mcs (l.take i) := by
      have := congrArg (List.take (i * 3)) ht
      rw [List.take_take, Nat.min_eq_left (by omega)] at this
      rw [this]
      have e : mcs l = mcs (l.take i) ++ mcs (l.drop i) := by rw [← mcs_append, List.take_append_drop]
      rw [e, ← hlt, List.take_left]
    obtain ⟨new, hnew⟩ : ∃ new, new = cur.toList.take (i * 3 + 0) ++ Z ++ cur.toList.drop (i * 3 + 0 + Z.length) := ⟨_, rfl⟩
    have hnl : new.length = cur.size := by rw [hnew]; simp [hZl, hcs]; omega
    have hnt : new.take (i * 3) = mcs (l.take i) := by rw [hnew, Nat.add_zero, List.append_assoc, hpre, ← hlt, List.take_left]
    refine ⟨u.setRow g new.toArray, ?_, ⟨⟨hlt, .inr ⟨g, c, new.toArray, rfl, hb, setRow_heap u g cur _ _ _ hg, by omega, hm, by simpa [hnl] using hcs, by simpa using hnt⟩⟩, ?_, hsz, by rw [List.length_take]; omega⟩⟩
    · intro ty c'
      obtain ⟨m, hm2⟩ : ∃ m, n - i = m + 1 := ⟨n - i - 1, by omega⟩
      rw [hm2] at hZ ⊢
      rw [hnew]
      simp only [Nat.add_zero] at hst ⊢
      simp [Builtin.clear_, run_underlying Tryd.underlying41, hv, ← hZ, hst]
    · refine h.kp.trans (Y := [g]) ?_ (fun k hk _ => hk)
      have hB := below_setRow (Below.refl g u) (Nat.le_refl g) new.toArray
      refine ⟨hB.os, hB.tape, hB.output, hB.size, fun k _ hk => ?_⟩
      simp only [List.mem_cons, List.not_mem_nil, or_false] at hk
      simp only [World.setRow]
      rw [Array.getElem?_modify, if_neg (fun e => hk e.symm)]

end Go.Proofs.YtdgknofpkafppabDoor

/- The program's forest: forget, leave. Written by forest/mk_pfl.py. -/
namespace Go.Proofs.YtdgknofpkafppabDoor
open Go Go.RowKit

/-- A surface's three states by number. -/
def stx : Nat → Sr → Sx
  | 0, s => s.pe
  | 1, s => s.ca
  | _, s => s.no
def sux : Nat → Sx → Sr → Sr
  | 0, x, s => { s with pe := x }
  | 1, x, s => { s with ca := x }
  | _, x, s => { s with no := x }
theorem stx_sux {j : Nat} (x : Sx) (s : Sr) : stx j (sux j x s) = x := by
  match j with
  | 0 => rfl
  | 1 => rfl
  | j + 2 => rfl
theorem stx_sux_ne {i j : Nat} (hi : i < 3) (hj : j < 3) (hne : i ≠ j) (x : Sx) (s : Sr) : stx i (sux j x s) = stx i s := by
  match i, j with
  | 0, 0 => omega
  | 0, 1 => rfl
  | 0, 2 => rfl
  | 1, 0 => rfl
  | 1, 1 => omega
  | 1, 2 => rfl
  | 2, 0 => rfl
  | 2, 1 => rfl
  | 2, 2 => omega
theorem sux_par {j : Nat} (x : Sx) (s : Sr) : (sux j x s).par = s.par ∧ (sux j x s).syn = s.syn := by
  match j with
  | 0 => exact ⟨rfl, rfl⟩
  | 1 => exact ⟨rfl, rfl⟩
  | j + 2 => exact ⟨rfl, rfl⟩
theorem sxc_od (x : Sx) : (sxc x)[8]? = some (.slice x.od.a x.od.n x.od.c) := rfl
theorem sxc_pl (x : Sx) : (sxc x)[9]? = some (.slice x.pl.a x.pl.n x.pl.c) := rfl
theorem pcs_stx {j : Nat} (hj : j < 3) {k : Nat} (hk : k < 10) (s : Sr) : (pcs s)[j * 10 + k]? = (sxc (stx j s))[k]? := by
  match j with
  | 0 =>
    rw [pcs, Nat.zero_mul, Nat.zero_add, List.getElem?_append_left (by simpa [sxc] using hk)]
    rfl
  | 1 =>
    rw [pcs, List.getElem?_append_right (by simp [sxc]), List.getElem?_append_left (by simp [sxc]; omega)]
    simp [sxc, stx]
  | 2 =>
    rw [pcs, List.getElem?_append_right (by simp [sxc]; omega), List.getElem?_append_right (by simp [sxc]; omega), List.getElem?_append_left (by simp [sxc]; omega)]
    simp only [sxc, List.length_cons, List.length_nil, stx]
    congr 1
    omega

variable {base : Nat} {w0 w w' : World} {p m : Nat} {L L' : Po} {F : Fo} {id : Int} {es : List Addr} {e : Ps}
theorem st_st {α : Type} (l : List (Int × α)) (k : Int) (a b : α) : st (st l k a) k b = st l k b := by
  simp only [st, List.map_map]
  refine List.map_congr_left fun e _ => ?_
  simp only [Function.comp]
  split
  · simp
  · rfl
theorem st_self {α : Type} {l : List (Int × α)} (hn : (keys l).Nodup) {k : Int} {a : α} (h : gt l k = some a) : st l k a = l := by
  rw [st]
  conv => rhs; rw [← List.map_id l]
  refine List.map_congr_left fun x hx => ?_
  split
  · rename_i hk
    have := gt_of_mem hn hx
    rw [hk, h] at this
    cases this
    rw [← hk]
    rfl
  · rfl
theorem Pf.stOk (h : Pf base w p m L) (he : gt L id = some e) (j : Nat) : (stx j e.s).Ok w ∧ w.ownsRow base 55 3 (stx j e.s).pl.v (stx j e.s).pl.n (mcs (stx j e.s).pl.l) := by
  have ho := h.rows id e he
  match j with
  | 0 => exact ⟨ho.ok.pe, ho.pp⟩
  | 1 => exact ⟨ho.ok.ca, ho.cp⟩
  | j + 2 => exact ⟨ho.ok.no, ho.np⟩
/-- A new order in one of the three. -/
theorem Pf.fgOd (h : Pf base w0 p m L) (he : gt L id = some e) {j : Nat} (hj : j < 3) (hb : Below w0.heap.size w0 w) (l : Sl) (hl : RdM 1 w l.a l.n l.c l.l) (hn : ∀ y, l.a = some y → 0 < l.n → w0.heap.size ≤ y.block) :
    PfR base w0 p m L (pab (st L id ⟨e.g, sux j { stx j e.s with od := l } e.s⟩)) (w.setCell ⟨e.g, j * 10 + 8, none⟩ l.v) (st L id ⟨e.g, sux j { stx j e.s with od := l } e.s⟩) := by
  have ho := ((h.on hb).rows id e he)
  have hB := (h.on hb).bk he
  have hf : ∀ (X : List Nat), X = [] → ∀ z : Sl, Rold w0.heap.size X z l := fun X hX z => .inr fun y hy h0 => ⟨hn y hy h0, by simp [hX]⟩
  match j, hj with
  | 0, _ => exact h.put he (kp_of_below hb []) (by simp) (kp1 _ _ _ _) (hB.set 8 l.v) ⟨⟨⟨ho.ok.pe.dm, ho.ok.pe.fr, ho.ok.pe.rg, hl, ho.ok.pe.pl⟩, ho.ok.ca, ho.ok.no⟩, ho.dm, ho.fr, ho.pp, ho.cp, ho.np⟩ (k := 5) ⟨.same, .same, .same, .same, .same, .same, hf _ rfl _, .same, .same, .same, .same, .same, .same, .same, .same⟩
  | 1, _ => exact h.put he (kp_of_below hb []) (by simp) (kp1 _ _ _ _) (hB.set 18 l.v) ⟨⟨ho.ok.pe, ⟨ho.ok.ca.dm, ho.ok.ca.fr, ho.ok.ca.rg, hl, ho.ok.ca.pl⟩, ho.ok.no⟩, ho.dm, ho.fr, ho.pp, ho.cp, ho.np⟩ (k := 5) ⟨.same, .same, .same, .same, .same, .same, .same, .same, .same, .same, hf _ rfl _, .same, .same, .same, .same⟩
  | 2, _ => exact h.put he (kp_of_below hb []) (by simp) (kp1 _ _ _ _) (hB.set 28 l.v) ⟨⟨ho.ok.pe, ho.ok.ca, ⟨ho.ok.no.dm, ho.ok.no.fr, ho.ok.no.rg, hl, ho.ok.no.pl⟩⟩, ho.dm, ho.fr, ho.pp, ho.cp, ho.np⟩ (k := 5) ⟨.same, .same, .same, .same, .same, .same, .same, .same, .same, .same, .same, .same, .same, .same, hf _ rfl _⟩
/-- Places turned where they lie, in one of the three. -/
theorem Pf.fgPl (h : Pf base w0 p m L) (he : gt L id = some e) {j : Nat} (hj : j < 3) (hk0 : Kp (stx j e.s).pl.bl w0 w) (y : Sl) (hy : RdM 3 w y.a y.n y.c y.l) (ho' : w.ownsRow base 55 3 y.v y.n (mcs y.l)) (hn : ∀ b ∈ y.bl, b ∈ (stx j e.s).pl.bl) :
    PfR base w0 p m L (pab (st L id ⟨e.g, sux j { stx j e.s with pl := y } e.s⟩)) (w.setCell ⟨e.g, j * 10 + 9, none⟩ y.v) (st L id ⟨e.g, sux j { stx j e.s with pl := y } e.s⟩) := by
  obtain ⟨hsep, hfar⟩ := h.sep id e he
  have ho := h.rows id e he
  obtain ⟨i, hi⟩ : ∃ i : Nat, i = j + 2 := ⟨_, rfl⟩
  have hij : (wos e.s)[i]? = some (stx j e.s).pl := by
    match j, hj with
    | 0, _ => rw [hi]; rfl
    | 1, _ => rw [hi]; rfl
    | 2, _ => rw [hi]; rfl
  have hm : ∀ b ∈ (stx j e.s).pl.bl, b ∈ wb e := fun b hb => mem_wb.2 (.inr ⟨_, List.mem_of_getElem? hij, hb⟩)
  have hge : e.g ∉ (stx j e.s).pl.bl := hsep.g _ (List.mem_of_getElem? hij)
  have hB : Bk w e.g 46 (pcs e.s).toArray := (h.bk he).kp hk0 hge
  have hw : ∀ (i' : Nat) x, (wos e.s)[i']? = some x → i' ≠ i → ∀ b ∈ x.bl, b ∉ (stx j e.s).pl.bl := fun i' x hx h0 b hb hm => h0 (hsep.two i' i x _ b hx hij hb hm)
  have hr : ∀ z ∈ ros e.s, ∀ b ∈ (stx j e.s).pl.bl, z.Frb b := fun z hz b hb => (hfar b (hm b hb)).2.2.2 z hz
  have R : ∀ {m'} (z : Sl), z ∈ ros e.s → RdM m' w0 z.a z.n z.c z.l → RdM m' w z.a z.n z.c z.l := fun z hz h1 => rd_far h1 hk0 (hr z hz)
  have D := fun (h' : 0 ≠ i) => rd_farw ho.ok.pe.dm hk0 (hw 0 _ rfl h')
  have Fr := fun (h' : 1 ≠ i) => rd_farw ho.ok.pe.fr hk0 (hw 1 _ rfl h')
  have P2 := fun (h' : 2 ≠ i) => rd_farw ho.ok.pe.pl hk0 (hw 2 _ rfl h')
  have P3 := fun (h' : 3 ≠ i) => rd_farw ho.ok.ca.pl hk0 (hw 3 _ rfl h')
  have P4 := fun (h' : 4 ≠ i) => rd_farw ho.ok.no.pl hk0 (hw 4 _ rfl h')
  have oD := fun (h' : 0 ≠ i) => own_far ho.dm hk0 (hw 0 _ rfl h')
  have oF := fun (h' : 1 ≠ i) => own_far ho.fr hk0 (hw 1 _ rfl h')
  have o2 := fun (h' : 2 ≠ i) => own_far ho.pp hk0 (hw 2 _ rfl h')
  have o3 := fun (h' : 3 ≠ i) => own_far ho.cp hk0 (hw 3 _ rfl h')
  have o4 := fun (h' : 4 ≠ i) => own_far ho.np hk0 (hw 4 _ rfl h')
  have hold : ∀ k i', Old w0.heap.size k i' (stx j e.s).pl y := fun k i' b hb => .inl (hn b hb)
  match j, hj with
  | 0, _ => exact h.put he hk0 hm (kp1 _ _ _ _) (hB.set 9 y.v) ⟨⟨⟨D (by omega), Fr (by omega), R e.s.pe.rg (by simp [ros]) ho.ok.pe.rg, R e.s.pe.od (by simp [ros]) ho.ok.pe.od, hy⟩, ⟨R e.s.ca.dm (by simp [ros]) ho.ok.ca.dm, R e.s.ca.fr (by simp [ros]) ho.ok.ca.fr, R e.s.ca.rg (by simp [ros]) ho.ok.ca.rg, R e.s.ca.od (by simp [ros]) ho.ok.ca.od, P3 (by omega)⟩, ⟨R e.s.no.dm (by simp [ros]) ho.ok.no.dm, R e.s.no.fr (by simp [ros]) ho.ok.no.fr, R e.s.no.rg (by simp [ros]) ho.ok.no.rg, R e.s.no.od (by simp [ros]) ho.ok.no.od, P4 (by omega)⟩⟩, oD (by omega), oF (by omega), ho', o3 (by omega), o4 (by omega)⟩ (k := 5) ⟨.same, .same, hold _ _, .same, .same, .same, .same, .same, .same, .same, .same, .same, .same, .same, .same⟩
  | 1, _ => exact h.put he hk0 hm (kp1 _ _ _ _) (hB.set 19 y.v) ⟨⟨⟨D (by omega), Fr (by omega), R e.s.pe.rg (by simp [ros]) ho.ok.pe.rg, R e.s.pe.od (by simp [ros]) ho.ok.pe.od, P2 (by omega)⟩, ⟨R e.s.ca.dm (by simp [ros]) ho.ok.ca.dm, R e.s.ca.fr (by simp [ros]) ho.ok.ca.fr, R e.s.ca.rg (by simp [ros]) ho.ok.ca.rg, R e.s.ca.od (by simp [ros]) ho.ok.ca.od, hy⟩, ⟨R e.s.no.dm (by simp [ros]) ho.ok.no.dm, R e.s.no.fr (by simp [ros]) ho.ok.no.fr, R e.s.no.rg (by simp [ros]) ho.ok.no.rg, R e.s.no.od (by simp [ros]) ho.ok.no.od, P4 (by omega)⟩⟩, oD (by omega), oF (by omega), o2 (by omega), ho', o4 (by omega)⟩ (k := 5) ⟨.same, .same, .same, hold _ _, .same, .same, .same, .same, .same, .same, .same, .same, .same, .same, .same⟩
  | 2, _ => exact h.put he hk0 hm (kp1 _ _ _ _) (hB.set 29 y.v) ⟨⟨⟨D (by omega), Fr (by omega), R e.s.pe.rg (by simp [ros]) ho.ok.pe.rg, R e.s.pe.od (by simp [ros]) ho.ok.pe.od, P2 (by omega)⟩, ⟨R e.s.ca.dm (by simp [ros]) ho.ok.ca.dm, R e.s.ca.fr (by simp [ros]) ho.ok.ca.fr, R e.s.ca.rg (by simp [ros]) ho.ok.ca.rg, R e.s.ca.od (by simp [ros]) ho.ok.ca.od, P3 (by omega)⟩, ⟨R e.s.no.dm (by simp [ros]) ho.ok.no.dm, R e.s.no.fr (by simp [ros]) ho.ok.no.fr, R e.s.no.rg (by simp [ros]) ho.ok.no.rg, R e.s.no.od (by simp [ros]) ho.ok.no.od, hy⟩⟩, oD (by omega), oF (by omega), o2 (by omega), o3 (by omega), ho'⟩ (k := 5) ⟨.same, .same, .same, .same, hold _ _, .same, .same, .same, .same, .same, .same, .same, .same, .same, .same⟩

theorem pl_mem {j : Nat} (hj : j < 3) (s : Sr) : (stx j s).pl ∈ wos s := by
  match j, hj with
  | 0, _ => simp [wos, stx]
  | 1, _ => simp [wos, stx]
  | 2, _ => simp [wos, stx]
/-- The first j states of s are without the child, the others as they were. -/
structure Fg (k : Int) (s : Sr) (j : Nat) (s' : Sr) : Prop where
  par : s'.par = s.par ∧ s'.syn = s.syn
  done : ∀ i, i < 3 → i < j → (stx i s').q = outQ k (stx i s).q
  left : ∀ i, i < 3 → j ≤ i → stx i s' = stx i s
theorem Fg.fin {k : Int} {s s' : Sr} (h : Fg k s 3 s') : s'.f = outS k s.f := by
  have h0 : s'.pe.q = outQ k s.pe.q := h.done 0 (by omega) (by omega)
  have h1 : s'.ca.q = outQ k s.ca.q := h.done 1 (by omega) (by omega)
  have h2 : s'.no.q = outQ k s.no.q := h.done 2 (by omega) (by omega)
  rw [Sr.f, outS, h0, h1, h2, h.par.1, h.par.2]
  rfl
theorem outL_od {w : World} {x : Sl} (h : RdM 1 w x.a x.n x.c x.l) (k : Int) : sg (dr k (un1 x.l)) = outL k x.l := by
  rw [← outL_sg, sg_un1 h.size]
theorem Fg.next {k : Int} {s s' : Sr} {j : Nat} (h : Fg k s j s') (hj : j < 3) {w : World} (hr : RdM 1 w (stx j s).od.a (stx j s).od.n (stx j s).od.c (stx j s).od.l) {l y : Sl} (hl : l.l = sg (dr k (un1 (stx j s).od.l))) (hy : y.l = outL k (stx j s).pl.l) :
    Fg k s (j + 1) (sux j { { stx j s' with od := l } with pl := y } s') := by
  have he := h.left j hj (Nat.le_refl _)
  refine ⟨⟨(sux_par _ _).1.trans h.par.1, (sux_par _ _).2.trans h.par.2⟩, fun i hi hlt => ?_, fun i hi hle => ?_⟩
  · by_cases e1 : i = j
    · subst e1
      rw [stx_sux, he]
      simp only [Sx.q, outQ, hl, hy, outL_od hr]
    · rw [stx_sux_ne hi hj e1]
      exact h.done i hi (by omega)
  · rw [stx_sux_ne hi hj (by omega)]
    exact h.left i hi (by omega)
/-- What a round of forget leaves. -/
structure Fr (base : Nat) (w : World) (p m : Nat) (L : Po) (id k : Int) (e : Ps) (c b : Nat) (j : Nat) (wr : World) : Prop where
  ex : ∃ s', Fg k e.s j s' ∧ PfR base w p m L (pab (st L id ⟨e.g, s'⟩)) wr (st L id ⟨e.g, s'⟩)
  ck : Bk wr c 3 #[.int .i64 k]
  bk : Bk wr b 71 #[.pointer (some ⟨e.g, 0, none⟩), .pointer (some ⟨e.g, 10, none⟩), .pointer (some ⟨e.g, 20, none⟩)]
  lc : w.heap.size ≤ c
  lb : w.heap.size ≤ b

end Go.Proofs.YtdgknofpkafppabDoor

/- The program's forest: leave, Unsub, Drop. Written by forest/mk_pfm.py. -/
namespace Go.Proofs.YtdgknofpkafppabDoor
open Go Go.RowKit

variable {base : Nat} {w0 w w' : World} {p m : Nat} {L L' : Po} {F : Fo} {id : Int} {es : List Addr} {e : Ps}
theorem Acy.ne {F : Fo} (h : Acy F) {x : Int} {s : Sf} (hs : gt F x = some s) : s.par ≠ x := fun e1 => by
  have := dpt_lt h hs
  rw [e1] at this
  omega



/-- A surface taken out of the map. -/
theorem Pf.del (h : Pf base w p m L) {D : DataW Unit} (hD : Rp ptd none D (pmp L)) {n : Nat} (ho : w'.ownsMap Tryd.prog 3 ptR m n (D.del (.int .i64 id))) (ht : w.mapTurned w' m) :
    PfR base w p m L (rm (pab L) id) w' (rm L id) := by
  have hk := kp_turned ht
  have hgt : ∀ x e', gt (rm L id) x = some e' → x ≠ id ∧ gt L x = some e' := fun x e' hx => by
    rw [gt_rm] at hx
    split at hx
    · cases hx
    · rename_i hne
      exact ⟨hne, hx⟩
  have hpm : pmp (rm L id) = rm (pmp L) id := by
    rw [pmp, rm, rm, pmp, List.filter_map]
    rfl
  have hpa : pab (rm L id) = rm (pab L) id := by
    rw [pab, rm, rm, pab, List.filter_map]
    rfl
  have hnd := keys_rm h.nd id
  have hRp : Rp ptd none (D.del (.int .i64 id)) (pmp (rm L id)) := by rw [hpm]; exact hD.del id
  refine ⟨⟨h.lop, h.lom, h.ne, hk.var h.obj (by simpa using h.ne), ⟨_, ?_, hRp⟩, hnd, fun x e hx => ?_, fun x e hx => ?_, fun x e hx => h.sep x e (hgt x e hx).2, fun x y e1 e2 h1 h2 => h.sep2 x y e1 e2 (hgt _ _ h1).2 (hgt _ _ h2).2, fun x e hx => h.far x e (hgt x e hx).2⟩, hpa, hk.mono (fun b hb _ => by simp only [List.mem_cons, List.not_mem_nil, or_false] at hb; rw [hb]; exact List.mem_cons_self), fun b hb => ?_, fun b _ ho x e1 h1 => ho x e1 (hgt x e1 h1).2⟩
  · have := ptight ho Tryd.underlying3 hRp (by rw [pmp_keys]; exact hnd)
    rw [pmp_length] at this
    exact this
  · have hx' := (hgt x e hx).2
    exact hk.var (h.srf x e hx') (by simpa using ((h.sep x e hx').2 e.g (mem_wb.2 (.inl rfl))).2.2.1)
  · have hx' := (hgt x e hx).2
    exact (h.rows x e hx').kp hk (fun b hb hm => ((h.sep x e hx').2 b hb).2.2.1 (by simpa using hm)) (fun z hz b hb => by simp only [List.mem_cons, List.not_mem_nil, or_false] at hb; rw [hb]; exact (h.far x e hx' z hz).2)
  · obtain ⟨x, e1, h1, h2⟩ := (mem_wbs hnd).1 hb
    exact .inl ((mem_wbs h.nd).2 ⟨x, e1, (hgt x e1 h1).2, h2⟩)

/-- Nobody's any more, where it was id's. -/
def rsP (id : Int) (e : Ps) : Ps := if e.s.par = id then ⟨e.g, { e.s with par := 0 }⟩ else e
def rsL (id : Int) (left : Int → Bool) (L : Po) : Po := L.map fun e => (e.1, if left e.1 then e.2 else rsP id e.2)
theorem gt_rsL (id : Int) (left : Int → Bool) (L : Po) (x : Int) : gt (rsL id left L) x = (gt L x).map fun e => if left x then e else rsP id e := by
  induction L with
  | nil => rfl
  | cons e L ih =>
    rw [rsL, List.map_cons, gt, gt]
    by_cases h : e.1 = x
    · rw [if_pos h, if_pos h, ← h]
      rfl
    · rw [if_neg h, if_neg h]
      exact ih
theorem rsP_g (id : Int) (e : Ps) : (rsP id e).g = e.g := by unfold rsP; split <;> rfl
theorem rsL_st (hn : (keys L).Nodup) {left : Int → Bool} {x : Int} {e : Ps} (he : gt L x = some e) (hl : left x = true) : st (rsL id left L) x (rsP id e) = rsL id (fun z => left z && !(z == x)) L := by
  rw [st, rsL, rsL, List.map_map]
  refine List.map_congr_left fun y hy => ?_
  simp only [Function.comp]
  by_cases hx : y.1 = x
  · have := gt_of_mem hn hy
    rw [hx, he] at this
    cases this
    rw [if_pos hx]
    simp [hx, hl]
  · rw [if_neg hx]
    simp [hx]
theorem rsL_same (hn : (keys L).Nodup) {left : Int → Bool} {x : Int} {e : Ps} (he : gt L x = some e) (hl : left x = true) (hp : e.s.par ≠ id) : rsL id left L = rsL id (fun z => left z && !(z == x)) L := by
  have h1 := rsL_st (id := id) hn he hl
  have h2 : gt (rsL id left L) x = some (rsP id e) := by rw [gt_rsL, he]; simp [hl, rsP, hp]
  have h3 : (keys (rsL id left L)).Nodup := by
    have : keys (rsL id left L) = keys L := by simp [keys, rsL]
    rw [this]
    exact hn
  rw [st_self h3 h2] at h1
  exact h1
theorem rsL_all (id : Int) {left : Int → Bool} {L : Po} (h : ∀ x ∈ keys L, left x = true) : rsL id left L = L := by
  rw [rsL]
  conv => rhs; rw [← List.map_id L]
  refine List.map_congr_left fun x hx => ?_
  rw [if_pos (h _ (List.mem_map_of_mem hx))]
  rfl
theorem drpF_rsL {L1 : Po} (hg : (gt L id).isSome = true) (h1 : pab L1 = unsF (pab L) id) {left : Int → Bool} (hl : ∀ x ∈ keys L1, left x = false) : rm (pab (rsL id left L1)) id = drpF (pab L) id := by
  obtain ⟨e, he⟩ := Option.isSome_iff_exists.1 hg
  rw [drpF, gt_pab, he]
  simp only [Option.map_some]
  rw [← h1, pab, pab, rm, rm, rsL, List.map_map, List.filter_map, List.filter_map, List.map_map]
  refine List.map_congr_left fun x hx => ?_
  have hxm := (List.mem_filter.1 hx).1
  simp only [Function.comp, hl x.1 (List.mem_map_of_mem hxm)]
  unfold rsP
  simp only [Bool.false_eq_true, if_false]
  by_cases hp : x.2.s.par = id
  · simp [hp, Sr.f]
  · simp [hp, Sr.f]
/-- The iterator of a loop lies apart. -/
theorem Pf.iter {w1 : World} {L1 : Po} (h1 : Pf base w1 p m L1) {left : Int → Bool} (h : Pf base w p m (rsL id left L1)) {r : Nat} (hg : w.grownBy w' (some r)) (hr : w1.heap.size ≤ r) : Pf base w' p m (rsL id left L1) := by
  have hk : Kp [r] w w' := kp_of_grown hg
  obtain ⟨a1, a2⟩ := h1.lt
  refine h.kept hk (by simp only [List.mem_cons, List.not_mem_nil, or_false]; omega) (by simp only [List.mem_cons, List.not_mem_nil, or_false]; omega) (fun x e hx => ?_)
  rw [gt_rsL] at hx
  obtain ⟨e1, he1, rfl⟩ := Option.map_eq_some_iff.1 hx
  have hw : ∀ e2 : Ps, e2 = e1 ∨ e2 = rsP id e1 → wb e2 = wb e1 ∧ ros e2.s = ros e1.s := fun e2 h2 => by
    rcases h2 with rfl | rfl
    · exact ⟨rfl, rfl⟩
    · unfold rsP
      split <;> exact ⟨rfl, rfl⟩
  obtain ⟨q1, q2⟩ := hw (if left x = true then e1 else rsP id e1) (by split; exact .inl rfl; exact .inr rfl)
  rw [q1, q2]
  refine ⟨fun b hb hm => ?_, fun z hz b hb => ?_⟩
  · have := (h1.wlt he1 hb).2
    simp only [List.mem_cons, List.not_mem_nil, or_false] at hm
    omega
  · simp only [List.mem_cons, List.not_mem_nil, or_false] at hb
    rw [hb]
    exact (h1.rows x e1 he1).ros hz hr
end Go.Proofs.YtdgknofpkafppabDoor

/- The program's forest: Drop. -/
namespace Go.Proofs.YtdgknofpkafppabDoor
open Go Go.RowKit

variable {base : Nat} {w0 w w' : World} {p m : Nat} {L L' : Po} {F : Fo} {id : Int} {es : List Addr} {e : Ps}
theorem ptR_val {v : Value} {y : DataW Unit × List MemPlace} (h : ptR v = some y) : ∃ c, v = ptv c := by
  unfold ptR at h
  split at h
  · exact ⟨none, rfl⟩
  · rename_i g
    exact ⟨some g, rfl⟩
  · cases h
theorem pmp_rsL (id : Int) (left : Int → Bool) (L : Po) : pmp (rsL id left L) = pmp L := by
  rw [pmp, rsL, pmp, List.map_map]
  refine List.map_congr_left fun x _ => ?_
  simp only [Function.comp]
  split
  · rfl
  · rw [rsP_g]
/-- A round of Drop's loop. -/
structure Dp (base : Nat) (w1 : World) (p m : Nat) (L1 : Po) (D : DataW Unit) (id : Int) (r : Nat) (left : Lit → Bool) (cnt : Nat) (wr : World) : Prop where
  rg : wr.ranges Tryd.prog 3 ptR m r L1.length D left cnt
  pf : PfR base w1 p m L1 (pab (rsL id (fun x => left (.int .i64 x)) L1)) wr (rsL id (fun x => left (.int .i64 x)) L1)
  lo : w1.heap.size ≤ r
theorem same_int (x y : Int) : (Lit.int .i64 x).sameKey (.int .i64 y) = (x == y) := by
  rw [Bool.eq_iff_iff]
  constructor
  · intro h
    have := WideAt.sameKey_eq h
    simp only [Lit.int.injEq, true_and] at this
    simp [this]
  · intro h
    have : x = y := by simpa using h
    rw [this]
    exact WideAt.sameKey_self trivial
/-- An entry that comes: its surface; then the round's end. -/
theorem Dp.come {w1 : World} {L1 : Po} {D : DataW Unit} {r cnt : Nat} {left : Lit → Bool} {wr w2 : World} (h : Dp base w1 p m L1 D id r left cnt wr) (h1 : Pf base w1 p m L1) (hD : Rp ptd none D (pmp L1)) {x : Int} {c : Option Nat} {kl : Lit} {y : DataW Unit × List MemPlace} {cnt' : Nat}
    (hk : keyOf Tryd.prog 3 (.int .i64 x) = some kl) (hl : left kl = true) (hv : ptR (ptv c) = some y) (hat : ∀ zd, D.atKey kl zd = y.1) (hr : w2.ranges Tryd.prog 3 ptR m r L1.length D (fun z => left z && !z.sameKey kl) cnt') (hg : wr.grownBy w2 (some r)) :
    ∃ e1, gt L1 x = some e1 ∧ c = some e1.g ∧ w2.cell? ⟨e1.g, 30, none⟩ = some (.int .i64 e1.s.par) ∧ (∀ j, w2.frozen? ⟨e1.g, j, none⟩ = false) ∧ e1.g < w2.heap.size ∧
      (e1.s.par ≠ id → ∃ lf cn, Dp base w1 p m L1 D id r lf cn w2 ∧ cn = cnt') ∧
      (e1.s.par = id → ∃ lf cn, Dp base w1 p m L1 D id r lf cn (w2.setCell ⟨e1.g, 30, none⟩ (.int .i64 0)) ∧ cn = cnt') := by
  obtain rfl : kl = .int .i64 x := by
    obtain ⟨z, h2, h3, _⟩ := Maps.keyOf_int_inv Tryd.underlying3 hk
    cases h2
    exact h3
  have hpt : c = (gt (pmp L1) x).getD none := by
    have h2 := (hD x).2
    rw [hat] at h2
    have h3 : ptR (ptv c) = some (ptd c, []) := ptR_mk c
    rw [hv] at h3
    have h4 : y.1 = ptd c := by rw [Option.some.inj h3]
    rw [h4] at h2
    have h5 := ptR_mk c
    rw [h2] at h5
    have h6 := ptR_inv h5
    cases c with
    | none =>
      cases hq : (gt (pmp L1) x).getD none with
      | none => rfl
      | some q => rw [hq] at h6; cases h6
    | some c =>
      cases hq : (gt (pmp L1) x).getD none with
      | none => rw [hq] at h6; cases h6
      | some q =>
        rw [hq] at h6
        simp only [ptv, Value.pointer.injEq, Option.some.injEq, Addr.mk.injEq, and_true] at h6
        rw [h6]
  have hh : (gt (pmp L1) x).isSome = true := by
    have hown := h.rg.owns
    rw [← (hD x).1]
    have := hat .nil
    cases hc : Maps.has D (.int .i64 x) with
    | true => rfl
    | false =>
      obtain ⟨es, clock, since, seen, c0, _, F, _, hDD, _, _, _, hl1, hl2, _⟩ := h.rg
      obtain ⟨z, hz, hkz⟩ := hl2 _ hl
      have : Maps.has D (.int .i64 x) = true := by
        rw [hDD]
        exact List.any_eq_true.2 ⟨Go.WideElems.rg Tryd.prog 3 ptR z, mem_sorted.2 (List.mem_map.2 ⟨z, hz, rfl⟩), by rw [hkz]; exact WideAt.sameKey_self trivial⟩
      rw [this] at hc
      cases hc
  rw [gt_pmp] at hh hpt
  obtain ⟨e1, he1⟩ : ∃ e1, gt L1 x = some e1 := by
    cases hq : gt L1 x with
    | none => rw [hq] at hh; cases hh
    | some e1 => exact ⟨e1, rfl⟩
  rw [he1] at hpt
  have hgr : gt (rsL id (fun x => left (.int .i64 x)) L1) x = some e1 := by rw [gt_rsL, he1]; simp [hl]
  have h2 : Pf base w2 p m (rsL id (fun x => left (.int .i64 x)) L1) := h1.iter h.pf.pf hg h.lo
  have hP2 : PfR base w1 p m L1 (pab (rsL id (fun x => left (.int .i64 x)) L1)) w2 (rsL id (fun x => left (.int .i64 x)) L1) := ⟨h2, rfl, h.pf.kp.trans (kp_of_grown hg) (fun b hb hlt => by
    simp only [Option.toList_some, List.mem_cons, List.not_mem_nil, or_false] at hb
    have := h.lo
    omega), h.pf.new, h.pf.ofr⟩
  have hlf : (fun z : Int => left (.int .i64 z) && !(Lit.int .i64 z).sameKey (.int .i64 x)) = fun z => left (.int .i64 z) && !(z == x) := by
    funext z
    rw [same_int]
  refine ⟨e1, he1, hpt, h2.cell hgr, h2.fz hgr, (h2.wlt hgr (mem_wb.2 (.inl rfl))).2, fun hp => ⟨fun z => left z && !z.sameKey (.int .i64 x), cnt', ⟨hr, ?_, h.lo⟩, rfl⟩, fun hp => ⟨fun z => left z && !z.sameKey (.int .i64 x), cnt', ⟨?_, ?_, h.lo⟩, rfl⟩⟩
  · have := rsL_same (id := id) h1.nd (left := fun z => left (.int .i64 z)) he1 hl hp
    rw [this] at hP2
    simp only [hlf]
    exact hP2
  · refine hr.kept (row := some e1.g) ⟨rfl, rfl, rfl, by simp [World.setCell], fun k _ hk => Below.heap_setCell _ _ _ _ (fun e => hk (congrArg some e))⟩ ?_ ?_
    · intro e2
      have := ((h1.sep x e1 he1).2 e1.g (mem_wb.2 (.inl rfl))).2.2.1
      simp only [Option.some.injEq] at e2
      exact this e2.symm
    · intro e2
      have := (h1.wlt he1 (mem_wb.2 (.inl rfl))).2
      have := h.lo
      simp only [Option.some.injEq] at e2
      omega
  · have hR := hP2.trans (h2.putPar hgr (Below.refl _ _) 0)
    have he2 : (⟨e1.g, { e1.s with par := 0 }⟩ : Ps) = rsP id e1 := by rw [rsP, if_pos hp]
    have h3 := rsL_st (id := id) h1.nd (left := fun z => left (.int .i64 z)) he1 hl
    rw [he2, h3] at hR
    simp only [hlf]
    exact hR.as (by rw [← hR.ab])

end Go.Proofs.YtdgknofpkafppabDoor

/- The program's forest: a surface's apply, and what a commit does first. Written by forest/mk_pfo.py. -/
namespace Go.Proofs.YtdgknofpkafppabDoor
open Go Go.RowKit

variable {base : Nat} {w0 w w' : World} {p m : Nat} {L L' : Po} {F : Fo} {id : Int} {es : List Addr} {e : Ps}
theorem Bk.stl {u : World} {g T : Nat} : ∀ (vs : List Value) (o : Nat) (cs : List Value), Bk u g T cs.toArray → Bk (stl u g o vs) g T (setl cs o vs).toArray := fun vs => by
  induction vs generalizing u with
  | nil => exact fun o cs h => h
  | cons x vs ih =>
    intro o cs h
    have := h.set o x
    simp only [List.setIfInBounds_toArray] at this
    exact ih (o + 1) (cs.set o x) this
theorem pcs_no (s : Sr) (r : Sx) : setl (pcs s) 20 (sxc r) = pcs { s with no := r } := rfl
theorem pcs_ca (s : Sr) (r : Sx) : setl (pcs s) 10 (sxc r) = pcs { s with ca := r } := rfl
theorem pcs_pe (s : Sr) (r : Sx) : setl (pcs s) 0 (sxc r) = pcs { s with pe := r } := rfl
theorem Bk.no {u : World} {g T : Nat} {s : Sr} (h : Bk u g T (pcs s).toArray) (r : Sx) : Bk (sto u g 20 r) g T (pcs { s with no := r }).toArray := by
  have := Bk.stl (sxc r) 20 (pcs s) h
  rw [pcs_no] at this
  exact this
theorem Bk.ca {u : World} {g T : Nat} {s : Sr} (h : Bk u g T (pcs s).toArray) (r : Sx) : Bk (sto u g 10 r) g T (pcs { s with ca := r }).toArray := by
  have := Bk.stl (sxc r) 10 (pcs s) h
  rw [pcs_ca] at this
  exact this
theorem Bk.pe {u : World} {g T : Nat} {s : Sr} (h : Bk u g T (pcs s).toArray) (r : Sx) : Bk (sto u g 0 r) g T (pcs { s with pe := r }).toArray := by
  have := Bk.stl (sxc r) 0 (pcs s) h
  rw [pcs_pe] at this
  exact this
theorem kp_sto (u : World) (g o : Nat) (r : Sx) : Kp [g] u (sto u g o r) := kp_stl u g o (sxc r)
/-- The cells of one of the three. -/
theorem Pf.cells (h : Pf base w p m L) (he : gt L id = some e) : (w.cell? ⟨e.g, 0, none⟩ = some (.bool e.s.pe.at_) ∧ w.cell? ⟨e.g, 1, none⟩ = some (.int .i64 e.s.pe.buf) ∧ w.cell? ⟨e.g, 2, none⟩ = some (.slice e.s.pe.dm.a e.s.pe.dm.n e.s.pe.dm.c) ∧ w.cell? ⟨e.g, 3, none⟩ = some (.slice e.s.pe.fr.a e.s.pe.fr.n e.s.pe.fr.c) ∧ w.cell? ⟨e.g, 4, none⟩ = some (.bool e.s.pe.inp) ∧ w.cell? ⟨e.g, 5, none⟩ = some (.bool e.s.pe.all) ∧ w.cell? ⟨e.g, 6, none⟩ = some (.slice e.s.pe.rg.a e.s.pe.rg.n e.s.pe.rg.c) ∧ w.cell? ⟨e.g, 7, none⟩ = some (.bool e.s.pe.ord) ∧ w.cell? ⟨e.g, 8, none⟩ = some (.slice e.s.pe.od.a e.s.pe.od.n e.s.pe.od.c) ∧ w.cell? ⟨e.g, 9, none⟩ = some (.slice e.s.pe.pl.a e.s.pe.pl.n e.s.pe.pl.c)) ∧ (w.cell? ⟨e.g, 10, none⟩ = some (.bool e.s.ca.at_) ∧ w.cell? ⟨e.g, 11, none⟩ = some (.int .i64 e.s.ca.buf) ∧ w.cell? ⟨e.g, 12, none⟩ = some (.slice e.s.ca.dm.a e.s.ca.dm.n e.s.ca.dm.c) ∧ w.cell? ⟨e.g, 13, none⟩ = some (.slice e.s.ca.fr.a e.s.ca.fr.n e.s.ca.fr.c) ∧ w.cell? ⟨e.g, 14, none⟩ = some (.bool e.s.ca.inp) ∧ w.cell? ⟨e.g, 15, none⟩ = some (.bool e.s.ca.all) ∧ w.cell? ⟨e.g, 16, none⟩ = some (.slice e.s.ca.rg.a e.s.ca.rg.n e.s.ca.rg.c) ∧ w.cell? ⟨e.g, 17, none⟩ = some (.bool e.s.ca.ord) ∧ w.cell? ⟨e.g, 18, none⟩ = some (.slice e.s.ca.od.a e.s.ca.od.n e.s.ca.od.c) ∧ w.cell? ⟨e.g, 19, none⟩ = some (.slice e.s.ca.pl.a e.s.ca.pl.n e.s.ca.pl.c)) ∧ (w.cell? ⟨e.g, 20, none⟩ = some (.bool e.s.no.at_) ∧ w.cell? ⟨e.g, 21, none⟩ = some (.int .i64 e.s.no.buf) ∧ w.cell? ⟨e.g, 22, none⟩ = some (.slice e.s.no.dm.a e.s.no.dm.n e.s.no.dm.c) ∧ w.cell? ⟨e.g, 23, none⟩ = some (.slice e.s.no.fr.a e.s.no.fr.n e.s.no.fr.c) ∧ w.cell? ⟨e.g, 24, none⟩ = some (.bool e.s.no.inp) ∧ w.cell? ⟨e.g, 25, none⟩ = some (.bool e.s.no.all) ∧ w.cell? ⟨e.g, 26, none⟩ = some (.slice e.s.no.rg.a e.s.no.rg.n e.s.no.rg.c) ∧ w.cell? ⟨e.g, 27, none⟩ = some (.bool e.s.no.ord) ∧ w.cell? ⟨e.g, 28, none⟩ = some (.slice e.s.no.od.a e.s.no.od.n e.s.no.od.c) ∧ w.cell? ⟨e.g, 29, none⟩ = some (.slice e.s.no.pl.a e.s.no.pl.n e.s.no.pl.c)) :=
  ⟨⟨h.cell he, h.cell he, h.cell he, h.cell he, h.cell he, h.cell he, h.cell he, h.cell he, h.cell he, h.cell he⟩, ⟨h.cell he, h.cell he, h.cell he, h.cell he, h.cell he, h.cell he, h.cell he, h.cell he, h.cell he, h.cell he⟩, ⟨h.cell he, h.cell he, h.cell he, h.cell he, h.cell he, h.cell he, h.cell he, h.cell he, h.cell he, h.cell he⟩⟩

set_option maxRecDepth 100000 in
set_option maxHeartbeats 2000000 in
theorem fapply_any (h : Pf base w p m L) (he : gt L id = some e) (l2 : e.s.ca.Len 1000) (l3 : e.s.no.Len 1000) :
    Calls Tryd.prog 35 #[.pointer (some ⟨e.g, 0, none⟩)] w fun e' w' => e' = .returned undef ∧ ∃ r : Sx, r.q = apl e.s.no.q e.s.ca.q ∧ PfR base w p m L (upd (pab L) id aplS) w' (st L id ⟨e.g, { e.s with no := r, ca := sx0 }⟩) := by
  have HC : Hid (∀ W : World, Below w.heap.size w W → (W.cell? ⟨e.g, 10, none⟩ = some (.bool e.s.ca.at_) ∧ W.cell? ⟨e.g, 11, none⟩ = some (.int .i64 e.s.ca.buf) ∧ W.cell? ⟨e.g, 12, none⟩ = some (.slice e.s.ca.dm.a e.s.ca.dm.n e.s.ca.dm.c) ∧ W.cell? ⟨e.g, 13, none⟩ = some (.slice e.s.ca.fr.a e.s.ca.fr.n e.s.ca.fr.c) ∧ W.cell? ⟨e.g, 14, none⟩ = some (.bool e.s.ca.inp) ∧ W.cell? ⟨e.g, 15, none⟩ = some (.bool e.s.ca.all) ∧ W.cell? ⟨e.g, 16, none⟩ = some (.slice e.s.ca.rg.a e.s.ca.rg.n e.s.ca.rg.c) ∧ W.cell? ⟨e.g, 17, none⟩ = some (.bool e.s.ca.ord) ∧ W.cell? ⟨e.g, 18, none⟩ = some (.slice e.s.ca.od.a e.s.ca.od.n e.s.ca.od.c) ∧ W.cell? ⟨e.g, 19, none⟩ = some (.slice e.s.ca.pl.a e.s.ca.pl.n e.s.ca.pl.c)) ∧ (W.cell? ⟨e.g, 20, none⟩ = some (.bool e.s.no.at_) ∧ W.cell? ⟨e.g, 21, none⟩ = some (.int .i64 e.s.no.buf) ∧ W.cell? ⟨e.g, 22, none⟩ = some (.slice e.s.no.dm.a e.s.no.dm.n e.s.no.dm.c) ∧ W.cell? ⟨e.g, 23, none⟩ = some (.slice e.s.no.fr.a e.s.no.fr.n e.s.no.fr.c) ∧ W.cell? ⟨e.g, 24, none⟩ = some (.bool e.s.no.inp) ∧ W.cell? ⟨e.g, 25, none⟩ = some (.bool e.s.no.all) ∧ W.cell? ⟨e.g, 26, none⟩ = some (.slice e.s.no.rg.a e.s.no.rg.n e.s.no.rg.c) ∧ W.cell? ⟨e.g, 27, none⟩ = some (.bool e.s.no.ord) ∧ W.cell? ⟨e.g, 28, none⟩ = some (.slice e.s.no.od.a e.s.no.od.n e.s.no.od.c) ∧ W.cell? ⟨e.g, 29, none⟩ = some (.slice e.s.no.pl.a e.s.no.pl.n e.s.no.pl.c)) ∧ e.g < W.heap.size ∧ (∀ j, W.frozen? ⟨e.g, j, none⟩ = false) ∧ e.s.no.Ok W ∧ e.s.ca.Ok W) := fun W hW => by
    have h1 := h.on hW
    exact ⟨(h1.cells he).2.1, (h1.cells he).2.2, (h1.wlt he (mem_wb.2 (.inl rfl))).2, h1.fz he, (h1.rows id e he).ok.no, (h1.rows id e he).ok.ca⟩
  have HFIN : Hid (∀ (W W1 : World) (r : Sx), Below w.heap.size w W → Below W.heap.size W W1 → r.Ok W1 → r.New W.heap.size → r.q = apl e.s.no.q e.s.ca.q → W1.ownsRow W.heap.size 55 3 (.slice r.pl.a r.pl.n r.pl.c) r.pl.n (mcs r.pl.l) → r.Plf → r.q = apl e.s.no.q e.s.ca.q ∧ PfR base w p m L (upd (pab L) id aplS) (sto (sto W1 e.g 20 r) e.g 10 sx0) (st L id ⟨e.g, { e.s with no := r, ca := sx0 }⟩)) := fun W W1 r hb hb1 ok nw hq ho hp => by
    have hb2 := Below.on hb hb1
    have hB := ((h.on hb2).bk he)
    exact ⟨hq, h.putAp he hb2 r ok (nw.low hb.size) (ownsRow_low ho hb.size) hp ((kp_sto _ _ _ _).trans (kp_sto _ _ _ _) (fun k hk _ => hk)) ((hB.no r).ca sx0) hq⟩
  have HL2 := hid l2
  have HL3 := hid l3
  clear h he l2 l3
  go_enter Tryd.func35, Tryd.ntmps35
  go_upto_region 0 with fail
  refine wp_region_gate_drew (g := 14) (S := RowKit.Below w.heap.size w) (by kernel_rfl) ?hh (fun hHeld => ?_)
  case hh => exact ((Below.refl _ _).drew)
  generalize w.drew = W0 at hHeld ⊢
  try dsimp only at hHeld
  refine wpAnyG_take (i := 0) (v := ?_) rfl (by kernel_rfl) (by kernel_rfl) (by kernel_rfl) (by kernel_rfl) (fun _ _ _ h => h) (Or.inl ⟨by kernel_rfl, ?hy0⟩) (by assumption) ?_
  case hy0 => (intro wI hSw; (try dsimp only at hSw); obtain ⟨⟨a0, a1, a2, a3, a4, a5, a6, a7, a8, a9⟩, ⟨b0, b1, b2, b3, b4, b5, b6, b7, b8, b9⟩, t1, t2, -, -⟩ := HC.out _ hSw; go_simp; try with_reducible rfl)
  try simp only [Act.put, List.getElem_toArray, List.getElem_cons_zero, List.setIfInBounds_toArray, List.set_cons_zero, List.set_cons_succ]
  refine wpAnyG_takeFree (i := 1) (v := ?_) rfl (by kernel_rfl) (by kernel_rfl) (by kernel_rfl) (by kernel_rfl) (fun _ _ _ h => h) (Or.inl ⟨by kernel_rfl, ?hy1⟩) (by assumption) ?_
  case hy1 => (intro wI _; go_simp; try with_reducible rfl)
  try simp only [Act.put, List.getElem_toArray, List.getElem_cons_zero, List.getElem_cons_succ, List.setIfInBounds_toArray, List.set_cons_zero, List.set_cons_succ]
  refine wpAnyG_take (i := 2) (v := ?_) rfl (by kernel_rfl) (by kernel_rfl) (by kernel_rfl) (by kernel_rfl) (fun _ _ _ h => h) (Or.inl ⟨by kernel_rfl, ?hy2⟩) (by assumption) ?_
  case hy2 => (intro wI hSw; (try dsimp only at hSw); obtain ⟨⟨a0, a1, a2, a3, a4, a5, a6, a7, a8, a9⟩, ⟨b0, b1, b2, b3, b4, b5, b6, b7, b8, b9⟩, t1, t2, -, -⟩ := HC.out _ hSw; go_simp; try with_reducible rfl)
  try simp only [Act.put, List.getElem_toArray, List.getElem_cons_zero, List.getElem_cons_succ, List.setIfInBounds_toArray, List.set_cons_zero, List.set_cons_succ]
  refine wpAnyG_take (i := 3) (v := ?_) rfl (by kernel_rfl) (by kernel_rfl) (by kernel_rfl) (by kernel_rfl) (fun _ _ _ h => h) (Or.inl ⟨by kernel_rfl, ?hy3⟩) (by assumption) ?_
  case hy3 => (intro wI hSw; (try dsimp only at hSw); obtain ⟨⟨a0, a1, a2, a3, a4, a5, a6, a7, a8, a9⟩, ⟨b0, b1, b2, b3, b4, b5, b6, b7, b8, b9⟩, t1, t2, -, -⟩ := HC.out _ hSw; go_simp; try with_reducible rfl)
  try simp only [Act.put, List.getElem_toArray, List.getElem_cons_zero, List.getElem_cons_succ, List.setIfInBounds_toArray, List.set_cons_zero, List.set_cons_succ]
  refine wpAnyG_take (i := 4) (v := ?_) rfl (by kernel_rfl) (by kernel_rfl) (by kernel_rfl) (by kernel_rfl) (fun _ _ _ h => h) (Or.inl ⟨by kernel_rfl, ?hy4⟩) (by assumption) ?_
  case hy4 => (intro wI hSw; (try dsimp only at hSw); obtain ⟨⟨a0, a1, a2, a3, a4, a5, a6, a7, a8, a9⟩, ⟨b0, b1, b2, b3, b4, b5, b6, b7, b8, b9⟩, t1, t2, -, -⟩ := HC.out _ hSw; go_simp; try with_reducible rfl)
  try simp only [Act.put, List.getElem_toArray, List.getElem_cons_zero, List.getElem_cons_succ, List.setIfInBounds_toArray, List.set_cons_zero, List.set_cons_succ]
  refine wpAnyG_take (i := 5) (v := ?_) rfl (by kernel_rfl) (by kernel_rfl) (by kernel_rfl) (by kernel_rfl) (fun _ _ _ h => h) (Or.inl ⟨by kernel_rfl, ?hy5⟩) (by assumption) ?_
  case hy5 => (intro wI hSw; (try dsimp only at hSw); obtain ⟨⟨a0, a1, a2, a3, a4, a5, a6, a7, a8, a9⟩, ⟨b0, b1, b2, b3, b4, b5, b6, b7, b8, b9⟩, t1, t2, -, -⟩ := HC.out _ hSw; go_simp; try with_reducible rfl)
  try simp only [Act.put, List.getElem_toArray, List.getElem_cons_zero, List.getElem_cons_succ, List.setIfInBounds_toArray, List.set_cons_zero, List.set_cons_succ]
  refine wpAnyG_take (i := 6) (v := ?_) rfl (by kernel_rfl) (by kernel_rfl) (by kernel_rfl) (by kernel_rfl) (fun _ _ _ h => h) (Or.inl ⟨by kernel_rfl, ?hy6⟩) (by assumption) ?_
  case hy6 => (intro wI hSw; (try dsimp only at hSw); obtain ⟨⟨a0, a1, a2, a3, a4, a5, a6, a7, a8, a9⟩, ⟨b0, b1, b2, b3, b4, b5, b6, b7, b8, b9⟩, t1, t2, -, -⟩ := HC.out _ hSw; go_simp; try with_reducible rfl)
  try simp only [Act.put, List.getElem_toArray, List.getElem_cons_zero, List.getElem_cons_succ, List.setIfInBounds_toArray, List.set_cons_zero, List.set_cons_succ]
  refine wpAnyG_take (i := 7) (v := ?_) rfl (by kernel_rfl) (by kernel_rfl) (by kernel_rfl) (by kernel_rfl) (fun _ _ _ h => h) (Or.inl ⟨by kernel_rfl, ?hy7⟩) (by assumption) ?_
  case hy7 => (intro wI hSw; (try dsimp only at hSw); obtain ⟨⟨a0, a1, a2, a3, a4, a5, a6, a7, a8, a9⟩, ⟨b0, b1, b2, b3, b4, b5, b6, b7, b8, b9⟩, t1, t2, -, -⟩ := HC.out _ hSw; go_simp; try with_reducible rfl)
  try simp only [Act.put, List.getElem_toArray, List.getElem_cons_zero, List.getElem_cons_succ, List.setIfInBounds_toArray, List.set_cons_zero, List.set_cons_succ]
  refine wpAnyG_take (i := 8) (v := ?_) rfl (by kernel_rfl) (by kernel_rfl) (by kernel_rfl) (by kernel_rfl) (fun _ _ _ h => h) (Or.inl ⟨by kernel_rfl, ?hy8⟩) (by assumption) ?_
  case hy8 => (intro wI hSw; (try dsimp only at hSw); obtain ⟨⟨a0, a1, a2, a3, a4, a5, a6, a7, a8, a9⟩, ⟨b0, b1, b2, b3, b4, b5, b6, b7, b8, b9⟩, t1, t2, -, -⟩ := HC.out _ hSw; go_simp; try with_reducible rfl)
  try simp only [Act.put, List.getElem_toArray, List.getElem_cons_zero, List.getElem_cons_succ, List.setIfInBounds_toArray, List.set_cons_zero, List.set_cons_succ]
  refine wpAnyG_take (i := 9) (v := ?_) rfl (by kernel_rfl) (by kernel_rfl) (by kernel_rfl) (by kernel_rfl) (fun _ _ _ h => h) (Or.inl ⟨by kernel_rfl, ?hy9⟩) (by assumption) ?_
  case hy9 => (intro wI hSw; (try dsimp only at hSw); obtain ⟨⟨a0, a1, a2, a3, a4, a5, a6, a7, a8, a9⟩, ⟨b0, b1, b2, b3, b4, b5, b6, b7, b8, b9⟩, t1, t2, -, -⟩ := HC.out _ hSw; go_simp; try with_reducible rfl)
  try simp only [Act.put, List.getElem_toArray, List.getElem_cons_zero, List.getElem_cons_succ, List.setIfInBounds_toArray, List.set_cons_zero, List.set_cons_succ]
  refine wpAnyG_takeFree (i := 11) (v := ?_) rfl (by kernel_rfl) (by kernel_rfl) (by kernel_rfl) (by kernel_rfl) (fun _ _ _ h => h) (Or.inl ⟨by kernel_rfl, ?hy11⟩) (by assumption) ?_
  case hy11 => (intro wI _; go_simp; try with_reducible rfl)
  try simp only [Act.put, List.getElem_toArray, List.getElem_cons_zero, List.getElem_cons_succ, List.setIfInBounds_toArray, List.set_cons_zero, List.set_cons_succ]
  refine wpAnyG_ready (rs := [10]) (by kernel_rfl) (by simp) ?_
  refine AllReadyG.cons rfl (fun K hK => ?_) AllReadyG.nil
  go_simp
  go_wp2_with fail
  refine (applyo_any e.s.no e.s.ca _ (HC.out _ hHeld).2.2.2.2.1 (HC.out _ hHeld).2.2.2.2.2 HL3.out HL2.out).mono ?_
  rintro e' W10 ⟨r, rfl, okr, nwr, hqr, hbr, owr, plr⟩
  have HX := hid (HFIN.out _ _ r hHeld hbr okr nwr hqr owr plr)
  have hH2 := Below.on hHeld hbr
  refine hK.out _ _ hH2 (fun _ => ?_)
  clear hK K hHeld okr nwr hqr owr plr hbr
  have hHeld := hH2
  clear hH2
  try simp only [Act.put, List.getElem_toArray, List.getElem_cons_zero, List.getElem_cons_succ, List.setIfInBounds_toArray, List.set_cons_zero, List.set_cons_succ]
  refine wpAnyG_take (i := 12) (v := ?_) rfl (by kernel_rfl) (by kernel_rfl) (by kernel_rfl) (by kernel_rfl) (fun _ _ _ h => h) (Or.inl ⟨by kernel_rfl, ?hy12⟩) (by assumption) ?_
  case hy12 => (intro wI hSw; (try dsimp only at hSw); obtain ⟨⟨a0, a1, a2, a3, a4, a5, a6, a7, a8, a9⟩, ⟨b0, b1, b2, b3, b4, b5, b6, b7, b8, b9⟩, t1, t2, -, -⟩ := HC.out _ hSw; go_simp; try with_reducible rfl)
  try simp only [Act.put, List.getElem_toArray, List.getElem_cons_zero, List.getElem_cons_succ, List.setIfInBounds_toArray, List.set_cons_zero, List.set_cons_succ]
  refine wpAnyG_take (i := 13) (v := ?_) rfl (by kernel_rfl) (by kernel_rfl) (by kernel_rfl) (by kernel_rfl) (fun _ _ _ h => h) (Or.inl ⟨by kernel_rfl, ?hy13⟩) (by assumption) ?_
  case hy13 => (intro wI hSw; (try dsimp only at hSw); obtain ⟨⟨a0, a1, a2, a3, a4, a5, a6, a7, a8, a9⟩, ⟨b0, b1, b2, b3, b4, b5, b6, b7, b8, b9⟩, t1, t2, -, -⟩ := HC.out _ hSw; go_simp; try with_reducible rfl)
  try simp only [Act.put, List.getElem_toArray, List.getElem_cons_zero, List.getElem_cons_succ, List.setIfInBounds_toArray, List.set_cons_zero, List.set_cons_succ]
  have hG := hHeld
  clear hHeld
  have hHeld : True := trivial
  refine wpAnyG_gateOp rfl (by kernel_rfl) (fun K hK => ?_)
  obtain ⟨⟨a0, a1, a2, a3, a4, a5, a6, a7, a8, a9⟩, ⟨b0, b1, b2, b3, b4, b5, b6, b7, b8, b9⟩, t1, t2, -, -⟩ := HC.out _ hG
  clear hG
  go_simp
  refine hK.out _ _ trivial (fun _ => ?_)
  clear hK K
  try simp only [Act.put, List.getElem_toArray, List.getElem_cons_zero, List.getElem_cons_succ, List.setIfInBounds_toArray, List.set_cons_zero, List.set_cons_succ]
  refine wpAnyH_take (i := 15) (v := ?_) rfl (by kernel_rfl) (by kernel_rfl) (by kernel_rfl) (fun _ _ _ h => h) (Or.inl ⟨by kernel_rfl, ?hy15⟩) (by assumption) ?_
  case hy15 => (intro wI hSw; (try dsimp only at hSw); go_simp; try with_reducible rfl)
  try simp only [Act.put, List.getElem_toArray, List.getElem_cons_zero, List.getElem_cons_succ, List.setIfInBounds_toArray, List.set_cons_zero, List.set_cons_succ]
  refine wpAnyH_take (i := 16) (v := ?_) rfl (by kernel_rfl) (by kernel_rfl) (by kernel_rfl) (fun _ _ _ h => h) (Or.inl ⟨by kernel_rfl, ?hy16⟩) (by assumption) ?_
  case hy16 => (intro wI hSw; (try dsimp only at hSw); go_simp; try with_reducible rfl)
  try simp only [Act.put, List.getElem_toArray, List.getElem_cons_zero, List.getElem_cons_succ, List.setIfInBounds_toArray, List.set_cons_zero, List.set_cons_succ]
  refine wpAnyH_ready (rs := [17]) (by kernel_rfl) (by simp) ?_
  refine AllReadyH.cons rfl (fun K hK => ?_) AllReadyH.nil
  go_simp
  refine hK.out _ _ trivial (fun _ => ?_)
  clear hK K
  try simp only [Act.put, List.getElem_toArray, List.getElem_cons_zero, List.getElem_cons_succ, List.setIfInBounds_toArray, List.set_cons_zero, List.set_cons_succ]
  refine wpAnyH_done (by kernel_rfl) ?_ _
  go_wp2_with fail
  go_end0
  exact ⟨rfl, r, HX.out⟩

/-- What Commit's first region leaves. -/
theorem Pf.com1 (h : Pf base w p m L) (he : gt L id = some e) {W W1 : World} {r : Sx} (hb : Below w.heap.size w W) (hb1 : Below W.heap.size W W1) (ok : r.Ok W1) (nw : r.New W.heap.size) (hq : r.q = mrg e.s.ca.q e.s.pe.q) (ho : W1.ownsRow W.heap.size 55 3 (.slice r.pl.a r.pl.n r.pl.c) r.pl.n (mcs r.pl.l)) (hp : r.Plf) :
    PfR base w p m L (upd (pab L) id cacS) (sto (sto W1 e.g 10 r) e.g 0 sx0) (st L id ⟨e.g, { e.s with ca := r, pe := sx0 }⟩) := by
  have hb2 := Below.on hb hb1
  have hB := ((h.on hb2).bk he)
  exact h.putCm he hb2 r ok (nw.low hb.size) (ownsRow_low ho hb.size) hp ((kp_sto _ _ _ _).trans (kp_sto _ _ _ _) (fun k hk _ => hk)) ((hB.ca r).pe sx0) hq
end Go.Proofs.YtdgknofpkafppabDoor

/- The program's forest: what a closure that goes through it keeps: its variables, a row of its own. -/
namespace Go.Proofs.YtdgknofpkafppabDoor
open Go Go.RowKit

theorem Fok.nok {m : Nat} {L : Po} (h : Fok m (pab L)) : Nok L := by
  have hk : ∀ x e, gt L x = some e → gt (pab L) x = some e.s.f := fun x e he => by rw [gt_pab, he]; rfl
  have hp : ∀ x e, gt L x = some e → e.s.par = 0 ∨ (gt L e.s.par).isSome = true := fun x e he => by
    by_cases h0 : e.s.par = 0
    · exact .inl h0
    · refine .inr ?_
      obtain ⟨t, ht⟩ := h.inv.acy.par x e.s.f (hk x e he) h0
      rw [gt_pab] at ht
      obtain ⟨e', he', _⟩ := Option.map_eq_some_iff.1 ht
      have he2 : gt L e.s.par = some e' := he'
      rw [he2]
      rfl
  refine ⟨h.inv.acy, ?_, hp, fun x e he => ⟨?_, ?_⟩⟩
  · have := h.inv.zero
    rw [gt_pab] at this
    exact Option.map_eq_none_iff.1 this
  · exact h.bof.keys x (gt_some.1 (by rw [hk x e he]; rfl))
  · rcases hp x e he with h0 | h0
    · rw [h0]
      exact bt0
    · exact h.bof.keys _ (by rw [pab_keys]; exact gt_some.1 h0)
theorem Fok.len {m : Nat} {L : Po} (h : Fok m (pab L)) (hm : m ≤ 900) {base : Nat} {w : World} {p q : Nat} (hP : Pf base w p q L) {x : Int} {e : Ps} (he : gt L x = some e) : e.s.pe.Len 1000 ∧ e.s.ca.Len 1000 ∧ e.s.no.Len 1000 :=
  zs_len (h.szf x e.s.f (by rw [gt_pab, he]; rfl)) (hP.rows x e he).ok hm
theorem Fok.few {m : Nat} {L : Po} (h : Fok m (pab L)) (hm : m ≤ 900) {base : Nat} {w : World} {p q : Nat} (hP : Pf base w p q L) : Few L := fun x e he => by
  obtain ⟨h1, h2, h3⟩ := h.len hm hP he
  exact ⟨len_mono h1 (by omega), len_mono h2 (by omega), len_mono h3 (by omega)⟩
theorem fsynced_one {base : Nat} {w : World} {p m : Nat} {L : Po} {es : List Addr} (hE : Fe w es) (h : Pf base w p m L) (hN : Nok L) (x : Int) (hx : Bt x) :
    Calls Tryd.prog 34 #[.pointer (some ⟨p, 0, none⟩), .int .i64 x] w fun e w' => e = .returned (.bool (sy (pab L) x)) ∧ ∃ q, w' = w.drewN q :=
  fsynced_any hE h hN.acy (fun y e he => (hN.key y e he).2) _ x hx (Nat.le_refl _) 0

/-- A closure's variables: the forest's pointer in cf, a slice in ca, the closure itself in cb; the slice vl reads xs and is its own. -/
structure Ka (base B : Nat) (w : World) (p m : Nat) (L : Po) (cf ca cb Tf : Nat) (fv : Value) (Ts Te sz : Nat) (vl : Value) (n : Nat) (xs : List Value) : Prop where
  pf : Pf base w p m L
  kf : Bk w cf 23 #[.pointer (some ⟨p, 0, none⟩)]
  kb : Bk w cb Tf #[fv]
  ka : Bk w ca Ts #[vl]
  row : w.ownsRow B Te sz vl n xs
  sep : ca ≠ cf ∧ ca ≠ cb
  ext : ∀ b ∈ cf :: ca :: cb :: vl.ownBlock.toList, b ≠ p ∧ b ≠ m ∧ b ∉ wbs L ∧ Ofr L b ∧ B ≤ b
  vn : ∀ b, vl.ownBlock = some b → b ≠ cf ∧ b ≠ ca ∧ b ≠ cb
  lo : base ≤ B
/-- What may have turned. -/
structure Kr (m ca : Nat) (u : World) (L : Po) (vl : Value) (w' : World) (L' : Po) (vl' : Value) : Prop where
  kp : Kp (m :: ca :: (wbs L ++ vl.ownBlock.toList)) u w'
  new : ∀ b ∈ wbs L', b ∈ wbs L ∨ u.heap.size ≤ b
  ofr : ∀ b, b < u.heap.size → Ofr L b → Ofr L' b
  vn : ∀ b, vl'.ownBlock = some b → vl.ownBlock = some b ∨ u.heap.size ≤ b

variable {base B : Nat} {w u w' : World} {p m : Nat} {L L' : Po} {F : Fo} {cf ca cb Tf : Nat} {fv : Value} {Ts Te sz : Nat} {vl vl' : Value} {n : Nat} {xs : List Value}
theorem Kr.refl (hb : Below u.heap.size u w') : Kr m ca u L vl w' L vl := ⟨kp_of_below hb _, fun _ h => .inl h, fun _ _ h => h, fun _ h => .inl h⟩
theorem Kr.trans {w2 : World} {L2 : Po} {vl2 : Value} (h : Kr m ca u L vl w' L' vl') (h' : Kr m ca w' L' vl' w2 L2 vl2) : Kr m ca u L vl w2 L2 vl2 := by
  refine ⟨h.kp.trans h'.kp (fun b hb hlt => ?_), fun b hb => ?_, fun b hb ho => h'.ofr b (Nat.lt_of_lt_of_le hb h.kp.size) (h.ofr b hb ho), fun b hb => ?_⟩
  · simp only [List.mem_cons, List.mem_append, Option.mem_toList] at hb ⊢
    rcases hb with hb | hb | hb | hb
    · exact .inl hb
    · exact .inr (.inl hb)
    · rcases h.new b hb with h1 | h1
      · exact .inr (.inr (.inl h1))
      · omega
    · rcases h.vn b hb with h1 | h1
      · exact .inr (.inr (.inr h1))
      · omega
  · rcases h'.new b hb with h1 | h1
    · exact h.new b h1
    · exact .inr (Nat.le_trans h.kp.size h1)
  · rcases h'.vn b hb with h1 | h1
    · exact h.vn b h1
    · exact .inr (Nat.le_trans h.kp.size h1)
theorem Kr.pfr (h : PfR base u p m L F w' L') : Kr m ca u L vl w' L' vl :=
  ⟨h.kp.mono (fun b hb _ => by
    rcases List.mem_cons.1 hb with rfl | hb
    · exact List.mem_cons_self
    · exact List.mem_cons_of_mem _ (List.mem_cons_of_mem _ (List.mem_append_left _ hb))), h.new, h.ofr, fun _ h => .inl h⟩
theorem Ka.xlt (h : Ka base B w p m L cf ca cb Tf fv Ts Te sz vl n xs) : ∀ b ∈ cf :: ca :: cb :: vl.ownBlock.toList, b < w.heap.size := fun b hb => by
  simp only [List.mem_cons, Option.mem_toList] at hb
  rcases hb with rfl | rfl | rfl | hb
  · exact h.kf.lt
  · exact h.ka.lt
  · exact h.kb.lt
  · exact (h.row.lt b hb).2
theorem Ka.on (h : Ka base B w p m L cf ca cb Tf fv Ts Te sz vl n xs) (hb : Below w.heap.size w w') : Ka base B w' p m L cf ca cb Tf fv Ts Te sz vl n xs :=
  ⟨h.pf.on hb, h.kf.on hb, h.kb.on hb, h.ka.on hb, ownsRow_below h.row hb, h.sep, h.ext, h.vn, h.lo⟩
/-- A call on the forest. -/
theorem Ka.pfr (h : Ka base B w p m L cf ca cb Tf fv Ts Te sz vl n xs) (hR : PfR base w p m L F w' L') : Ka base B w' p m L' cf ca cb Tf fv Ts Te sz vl n xs := by
  have hx := h.xlt
  have hno : ∀ b ∈ cf :: ca :: cb :: vl.ownBlock.toList, b ∉ m :: wbs L := fun b hb hm => by
    obtain ⟨_, h2, h3, _⟩ := h.ext b hb
    rcases List.mem_cons.1 hm with h4 | h4
    · exact h2 h4
    · exact h3 h4
  refine ⟨hR.pf, h.kf.kp hR.kp (hno _ (by simp)), h.kb.kp hR.kp (hno _ (by simp)), h.ka.kp hR.kp (hno _ (by simp)), hR.kp.row h.row (fun b hb => hno b (by simp [hb])), h.sep, fun b hb => ?_, h.vn, h.lo⟩
  obtain ⟨h1, h2, h3, h4, h5⟩ := h.ext b hb
  refine ⟨h1, h2, fun hm => ?_, hR.ofr b (hx b hb) h4, h5⟩
  rcases hR.new b hm with h6 | h6
  · exact h3 h6
  · have := hx b hb
    omega
/-- One more in the slice: the row grew, and is stored. -/
theorem Ka.app (h : Ka base B w p m L cf ca cb Tf fv Ts Te sz vl n xs) {v3 : Value} {w3 : World} {n3 : Nat} {xs3 : List Value} (o3 : w3.ownsRow B Te sz v3 n3 xs3) (g3 : w.grownBy w3 vl.ownBlock) (a3 : v3.ownBlock = vl.ownBlock ∨ v3.ownBlock = some w.heap.size) :
    w3.cell? ⟨ca, 0, none⟩ = some vl ∧ (∀ j, w3.frozen? ⟨ca, j, none⟩ = false) ∧ ca < w3.heap.size ∧ Ka base B (w3.setCell ⟨ca, 0, none⟩ v3) p m L cf ca cb Tf fv Ts Te sz v3 n3 xs3 ∧ Kr m ca w L vl (w3.setCell ⟨ca, 0, none⟩ v3) L v3 ∧ RowKit.Below B w (w3.setCell ⟨ca, 0, none⟩ v3) := by
  have hx := h.xlt
  have hk : Kp vl.ownBlock.toList w w3 := kp_of_grown g3
  have hcn : ∀ b ∈ [cf, ca, cb], b ∉ vl.ownBlock.toList := fun b hb hm => by
    have := h.vn b (by simpa using hm)
    simp only [List.mem_cons, List.not_mem_nil, or_false] at hb
    rcases hb with rfl | rfl | rfl
    · exact this.1 rfl
    · exact this.2.1 rfl
    · exact this.2.2 rfl
  have ka3 := h.ka.kp hk (hcn ca (by simp))
  have hk4 : Kp (ca :: vl.ownBlock.toList) w (w3.setCell ⟨ca, 0, none⟩ v3) := (hk.mono (fun b hb _ => List.mem_cons_of_mem _ hb)).set ⟨ca, 0, none⟩ (by simp) v3
  have hv3 : ∀ b, v3.ownBlock = some b → vl.ownBlock = some b ∨ b = w.heap.size := fun b hb => by
    rcases a3 with h1 | h1
    · exact .inl (by rw [← h1]; exact hb)
    · rw [h1] at hb
      cases hb
      exact .inr rfl
  have hca3 : v3.ownBlock ≠ some ca := fun e => by
    rcases hv3 ca e with h1 | h1
    · exact (h.vn ca h1).2.1 rfl
    · have := hx ca (by simp)
      omega
  have hmem : ∀ b ∈ ca :: vl.ownBlock.toList, b ∈ cf :: ca :: cb :: vl.ownBlock.toList := fun b hb => by
    rcases List.mem_cons.1 hb with rfl | hb
    · simp
    · simp [hb]
  refine ⟨ka3.cell 0, fun j => ka3.fz j, ka3.lt, ⟨?_, ?_, ?_, ?_, ownsRow_set o3 ⟨ca, 0, none⟩ hca3 v3, h.sep, fun b hb => ?_, fun b hb => ?_, h.lo⟩, ⟨hk4.mono (fun b hb _ => ?_), fun _ h => .inl h, fun _ _ h => h, fun b hb => ?_⟩, hk4.below (by have h1 := (h.ext ca (by simp)).2.2.2.2; have h2 := hx ca (by simp); omega) (fun b hb => (h.ext b (hmem b hb)).2.2.2.2)⟩
  · refine h.pf.kept hk4 (fun hm => (h.ext p (hmem p hm)).1 rfl) (fun hm => (h.ext m (hmem m hm)).2.1 rfl) (fun x e he => ⟨fun b hb hm => (h.ext b (hmem b hm)).2.2.1 ((mem_wbs h.pf.nd).2 ⟨x, e, he, hb⟩), fun z hz b hb => (h.ext b (hmem b hb)).2.2.2.1 x e he z hz⟩)
  · exact (h.kf.kp hk (hcn cf (by simp))).other (fun e => h.sep.1 e.symm) 0 v3
  · exact (h.kb.kp hk (hcn cb (by simp))).other (fun e => h.sep.2 e.symm) 0 v3
  · exact ka3.set 0 v3
  · simp only [List.mem_cons, Option.mem_toList] at hb
    have hold : ∀ b, b ∈ cf :: ca :: cb :: vl.ownBlock.toList → b ≠ p ∧ b ≠ m ∧ b ∉ wbs L ∧ Ofr L b ∧ B ≤ b := h.ext
    rcases hb with rfl | rfl | rfl | hb
    · exact hold _ (by simp)
    · exact hold _ (by simp)
    · exact hold _ (by simp)
    · rcases hv3 b hb with h1 | h1
      · exact hold b (by simp [h1])
      · obtain ⟨l1, l2⟩ := h.pf.lt
        refine ⟨by omega, by omega, fun hm => ?_, fun x e he z hz => (h.pf.rows x e he).ros hz (by omega), (o3.lt b hb).1⟩
        obtain ⟨x, e, he, hb'⟩ := (mem_wbs h.pf.nd).1 hm
        have := (h.pf.wlt he hb').2
        omega
  · rcases hv3 b hb with h1 | h1
    · exact h.vn b h1
    · have h2 := hx cf (by simp)
      have h3 := hx ca (by simp)
      have h4 := hx cb (by simp)
      exact ⟨by omega, by omega, by omega⟩
  · rcases List.mem_cons.1 hb with rfl | hb
    · simp
    · simp [show b ∈ vl.ownBlock.toList from hb]
  · rcases hv3 b hb with h1 | h1
    · exact .inl h1
    · exact .inr (by omega)
theorem Kr.bel (h : Kr m ca u L vl w' L' vl') (hK : Ka base B u p m L cf ca cb Tf fv Ts Te sz vl n xs) : Below base u w' := by
  have h1 := hK.pf.lt.1
  have h2 := hK.pf.lop
  have hlo := hK.lo
  refine h.kp.below (by omega) (fun k hk => ?_)
  simp only [List.mem_cons, List.mem_append, Option.mem_toList] at hk
  rcases hk with rfl | rfl | hk | hk
  · exact hK.pf.lom
  · have := (hK.ext k (by simp)).2.2.2.2
    omega
  · obtain ⟨x, e, he, hb⟩ := (mem_wbs hK.pf.nd).1 hk
    exact (hK.pf.wlt he hb).1
  · have := (hK.ext k (by simp [hk])).2.2.2.2
    omega
/-- A row that is only read stays. -/
theorem Kr.rd (h : Kr m ca u L vl w' L' vl') (hK : Ka base B u p m L cf ca cb Tf fv Ts Te sz vl n xs) {x : Int} {e : Ps} (he : gt L x = some e) {z : Sl} (hz : z ∈ ros e.s) {k : Nat} (hr : RdM k u z.a z.n z.c z.l) : RdM k w' z.a z.n z.c z.l := by
  refine rd_far hr h.kp (fun b hb => ?_)
  simp only [List.mem_cons, List.mem_append, Option.mem_toList] at hb
  rcases hb with rfl | rfl | hb | hb
  · exact (hK.pf.far x e he z hz).2
  · exact (hK.ext b (by simp)).2.2.2.1 x e he z hz
  · obtain ⟨y, e', he', hb'⟩ := (mem_wbs hK.pf.nd).1 hb
    by_cases hxy : y = x
    · subst hxy
      rw [he] at he'
      cases he'
      exact ((hK.pf.sep y e he).2 b hb').2.2.2 z hz
    · exact (hK.pf.sep2 y x e' e he' he hxy b hb').2 z hz
  · exact (hK.ext b (by simp [hb])).2.2.2.1 x e he z hz
/-- Variables that are new since w. -/
theorem Ka.out {w0 : World} {L0 : Po} (h0 : Pf base w0 p m L0) {u : World} (hb : Below w0.heap.size w0 u) (hK : Ka base w0.heap.size u p m L0 cf ca cb Tf fv Ts Te sz vl n xs) (h : Kr m ca u L0 vl w' L' vl') (hK' : Pf base w' p m L') (hF : pab L' = F) : PfR base w0 p m L0 F w' L' := by
  refine ⟨hK', hF, ?_, fun b hb' => ?_, fun b hlt ho => h.ofr b (Nat.lt_of_lt_of_le hlt hb.size) ho⟩
  · refine (kp_of_below hb _).trans h.kp (fun b hb' hlt => ?_)
    simp only [List.mem_cons, List.mem_append, Option.mem_toList] at hb'
    rcases hb' with rfl | rfl | hb' | hb'
    · exact List.mem_cons_self
    · have := (hK.ext b (by simp)).2.2.2.2
      omega
    · exact List.mem_cons_of_mem _ hb'
    · have := (hK.ext b (by simp [hb'])).2.2.2.2
      omega
  · rcases h.new b hb' with h1 | h1
    · exact .inl h1
    · exact .inr (Nat.le_trans hb.size h1)
/-- The variables as they are made. -/
theorem ka_new (h : Pf base w p m L) (hlo : base ≤ w.heap.size) {u : World} (hb : Below w.heap.size w u) (hf : Bk u w.heap.size 23 #[.pointer (some ⟨p, 0, none⟩)]) (ha : Bk u (w.heap.size + 1) Ts #[.slice none 0 0]) (hc : Bk u (w.heap.size + 2) Tf #[fv]) :
    Ka base w.heap.size u p m L w.heap.size (w.heap.size + 1) (w.heap.size + 2) Tf fv Ts Te sz (.slice none 0 0) 0 [] := by
  obtain ⟨l1, l2⟩ := h.lt
  refine ⟨h.on hb, hf, hc, ha, World.ownsRow_nil _ _ _ _, ⟨by omega, by omega⟩, fun b hb' => ?_, fun b hb' => (by cases hb'), hlo⟩
  have hge : w.heap.size ≤ b := by
    simp only [List.mem_cons, Option.mem_toList, Value.ownBlock] at hb'
    rcases hb' with rfl | rfl | rfl | hb'
    · omega
    · omega
    · omega
    · cases hb'
  refine ⟨by omega, by omega, fun hm => ?_, fun x e he z hz => (h.rows x e he).ros hz hge, hge⟩
  obtain ⟨x, e, he, hb2⟩ := (mem_wbs h.nd).1 hm
  have := (h.wlt he hb2).2
  omega
end Go.Proofs.YtdgknofpkafppabDoor

/- Forests: a row of children gone through. No program. -/
namespace Go.Proofs.YtdgknofpkafppabDoor
open Go Go.RowKit

/-- What stays over the children. -/
structure Fld (F : Fo) (m : Nat) (G : Fo) : Prop where
  inv : Inv G
  nof : Nof G
  szf : Szf m G
  tre : Tre F G
theorem kst_all {F : Fo} {m n : Nat} {r : Fo × List Int} (h : Fld F m r.1) (k : Int) : Fld F m (kst n r k).1 ∧ (kst n r k).2.length ≤ r.2.length + (if k = 0 then 0 else dsc F k) := by
  by_cases hk : k = 0
  · have : kst n r k = r := by
      unfold kst
      rw [hk, h.inv.zero]
    rw [this, if_pos hk]
    exact ⟨h, by omega⟩
  · rw [if_neg hk]
    unfold kst
    split
    · exact ⟨h, by omega⟩
    · rename_i c hc
      split
      · exact ⟨h, by omega⟩
      · split
        · have h1 := kds_inv n r.1 k r.2 h.inv
          have h2 := kds_length n r.1 k r.2 h.inv h.nof (by rw [hc]; rfl)
          rw [← h.tre.dsc] at h2
          exact ⟨⟨h1.1, kds_nof n _ _ _ h.nof, kds_szf n _ _ _ h.szf, h.tre.trans h1.2⟩, by omega⟩
        · have htu := tre_upd r.1 k aplS (fun _ => ⟨rfl, rfl⟩)
          have h1 := kds_inv n (upd r.1 k aplS) k (r.2 ++ [k]) (h.inv.apls k)
          have hn : Nof (upd r.1 k aplS) := h.nof.turn _ _ fun s _ hs => hs.apls
          have hz : Szf m (upd r.1 k aplS) := h.szf.turn (Nat.le_refl m) _ _ fun s hs => hs.apls
          obtain ⟨t, h3, _⟩ := htu.some hc
          have h2 := kds_length n (upd r.1 k aplS) k (r.2 ++ [k]) (h.inv.apls k) hn (by rw [h3]; rfl)
          rw [List.length_append, List.length_singleton, ← htu.dsc, ← h.tre.dsc] at h2
          exact ⟨⟨h1.1, kds_nof n _ _ _ hn, kds_szf n _ _ _ hz, (h.tre.trans htu).trans h1.2⟩, by omega⟩
theorem fld_all {F : Fo} {m n : Nat} : ∀ (K : List Int) (r : Fo × List Int), Fld F m r.1 → Fld F m (K.foldl (kst n) r).1 ∧ (K.foldl (kst n) r).2.length ≤ r.2.length + ((K.filter fun k => k != 0).map (dsc F)).sum := fun K => by
  induction K with
  | nil => exact fun r h => ⟨h, Nat.le_refl _⟩
  | cons k K ih =>
    intro r h
    rw [List.foldl_cons]
    obtain ⟨h1, h2⟩ := kst_all (n := n) h k
    obtain ⟨h3, h4⟩ := ih _ h1
    refine ⟨h3, ?_⟩
    rw [List.filter_cons]
    by_cases hk : k = 0
    · rw [if_neg (by simpa using hk)]
      rw [if_pos hk] at h2
      omega
    · rw [if_pos (by simpa using hk), List.map_cons, List.sum_cons]
      rw [if_neg hk] at h2
      omega
theorem sum_take_le (l : List Int) (f : Int → Nat) (j : Nat) : (((l.take j).filter fun k => k != 0).map f).sum ≤ ((l.filter fun k => k != 0).map f).sum := by
  have : l.filter (fun k => k != 0) = (l.take j).filter (fun k => k != 0) ++ (l.drop j).filter (fun k => k != 0) := by rw [← List.filter_append, List.take_append_drop]
  rw [this, List.map_append, List.sum_append]
  omega
/-- So long is the list at any time. -/
theorem fld_len {F : Fo} {m n : Nat} (hI : Inv F) (hN : Nof F) (hZ : Szf m F) {x : Int} {s : Sf} (hs : gt F x = some s) (acc : List Int) (j : Nat) : Fld F m (((un1 s.no.od).take j).foldl (kst n) (F, acc)).1 ∧ (((un1 s.no.od).take j).foldl (kst n) (F, acc)).2.length ≤ acc.length + 40 := by
  obtain ⟨h1, h2⟩ := fld_all (F := F) (m := m) (n := n) ((un1 s.no.od).take j) (F, acc) ⟨hI, hN, hZ, Tre.refl F⟩
  refine ⟨h1, ?_⟩
  have h3 := sum_take_le (un1 s.no.od) (dsc F) j
  have h4 := kids_dsc hI.acy hs (nodup_filter_ne (hN x s hs).no) (kid_mem hI hs)
  have h5 := dsc_le F x
  have h6 := hI.len
  dsimp only at h2
  omega
theorem fold_take {α : Type} {l : List Int} {j : Nat} {k : Int} (h : l[j]? = some k) (f : α → Int → α) (r : α) : (l.take (j + 1)).foldl f r = f ((l.take j).foldl f r) k := by
  rw [List.take_add_one, h, List.foldl_append]
  rfl
end Go.Proofs.YtdgknofpkafppabDoor

/- The program's forest: what waits below is applied. -/
namespace Go.Proofs.YtdgknofpkafppabDoor
open Go Go.RowKit

theorem Nok.tre {L L1 : Po} (h : Nok L) (ht : Tre (pab L) (pab L1)) : Nok L1 := by
  have hk : ∀ {L : Po} x e, gt L x = some e → gt (pab L) x = some e.s.f := fun x e he => by rw [gt_pab, he]; rfl
  have hb : ∀ {L2 L3 : Po}, Tre (pab L2) (pab L3) → ∀ x e, gt L3 x = some e → ∃ e', gt L2 x = some e' ∧ e'.s.par = e.s.par := fun ht x e he => by
    obtain ⟨t, h1, h2, _⟩ := ht.symm.some (hk x e he)
    rw [gt_pab] at h1
    obtain ⟨e', he', rfl⟩ := Option.map_eq_some_iff.1 h1
    exact ⟨e', he', h2⟩
  refine ⟨ht.acy h.acy, ?_, fun x e he => ?_, fun x e he => ?_⟩
  · have := ht.none (x := 0) (by rw [gt_pab, h.zero]; rfl)
    rw [gt_pab] at this
    exact Option.map_eq_none_iff.1 this
  · obtain ⟨e', he', hp⟩ := hb ht x e he
    rcases h.par x e' he' with h0 | h0
    · exact .inl (by rw [← hp, h0])
    · obtain ⟨e2, he2⟩ := Option.isSome_iff_exists.1 h0
      rw [hp] at he2
      obtain ⟨e3, he3, _⟩ := hb ht.symm _ e2 he2
      exact .inr (by rw [he3]; rfl)
  · obtain ⟨e', he', hp⟩ := hb ht x e he
    have := h.key x e' he'
    exact ⟨this.1, by rw [← hp]; exact this.2⟩
theorem own_val {w : World} {B T s n : Nat} {v : Value} {xs : List Value} (h : w.ownsRow B T s v n xs) : ∃ a c, v = .slice a n c := by
  rcases h.2 with ⟨rfl, rfl⟩ | ⟨g, cap, cur, rfl, _⟩
  · exact ⟨_, _, rfl⟩
  · exact ⟨_, _, rfl⟩

variable {base B : Nat} {w u w' : World} {p m : Nat} {L L' : Po} {F : Fo} {cf ca cb : Nat} {vl : Value} {es : List Addr}
/-- The closure as a value. -/
def fvB (cf ca cb : Nat) : Value := .func (.func 43) #[] #[.pointer (some ⟨cf, 0, none⟩), .pointer (some ⟨ca, 0, none⟩), .pointer (some ⟨cb, 0, none⟩)]
/-- Its variables. -/
abbrev Kab (base B : Nat) (w : World) (p m : Nat) (L : Po) (cf ca cb : Nat) (vl : Value) (A : List Int) : Prop := Ka base B w p m L cf ca cb 94 (fvB cf ca cb) 40 3 1 vl A.length (ic A)
/-- What it leaves. -/
def KbR (base B : Nat) (p m : Nat) (cf ca cb : Nat) (u : World) (L : Po) (vl : Value) (r : Fo × List Int) (e' : Ending) (w' : World) : Prop := e' = .returned undef ∧ ∃ L' vl', Kab base B w' p m L' cf ca cb vl' r.2 ∧ pab L' = r.1 ∧ Kr m ca u L vl w' L' vl'

set_option maxRecDepth 100000 in
set_option maxHeartbeats 4000000 in
theorem fwaits_any {mm : Nat} (hm : mm ≤ 900) (hB : 16 ≤ base) : ∀ (n : Nat) (x : Int) (u : World) (L : Po) (vl : Value) (A : List Int) (e : Ps), Kab base B u p m L cf ca cb vl A → Fe u es → Inv (pab L) → Nof (pab L) → Szf mm (pab L) → Nok L → gt L x = some e → 40 ≤ n + dpt (pab L) x → n ≤ 41 → A.length + 100 * n ≤ 100000 →
    Calls Tryd.prog 43 (#[.pointer (some ⟨e.g, 0, none⟩)] ++ #[.pointer (some ⟨cf, 0, none⟩), .pointer (some ⟨ca, 0, none⟩), .pointer (some ⟨cb, 0, none⟩)]) u (KbR base B p m cf ca cb u L vl (kds (n + 1) (pab L) x A)) := by
  intro n
  induction n using Nat.strongRecOn with
  | ind n ih =>
    intro x u L vl A e hK hE hI hN hZ hNk hs hd hn hacc
    have eg := enters_of Tryd.func43 (by kernel_rfl) rfl
    obtain ⟨i0, hi, hz0, hz1, hz2⟩ := infoMP infoM1
    have hsa : gt (pab L) x = some e.s.f := by rw [gt_pab, hs]; rfl
    obtain ⟨od, hod⟩ : ∃ od, od = un1 e.s.no.od.l := ⟨_, rfl⟩
    obtain ⟨N, hNN⟩ : ∃ N, N = e.s.no.od.n := ⟨_, rfl⟩
    obtain ⟨oa, hoa⟩ : ∃ oa, oa = e.s.no.od.a := ⟨_, rfl⟩
    obtain ⟨oc, hoc⟩ : ∃ oc, oc = e.s.no.od.c := ⟨_, rfl⟩
    have HFIN : Hid (kds (n + 1) (pab L) x A = od.foldl (kst n) (pab L, A)) := by rw [Hid, kds_succ, hsa, hod]; rfl
    have HFLD : Hid (∀ j, Fld (pab L) mm ((od.take j).foldl (kst n) (pab L, A)).1 ∧ ((od.take j).foldl (kst n) (pab L, A)).2.length ≤ A.length + 40) := fun j => by rw [hod]; exact fld_len hI hN hZ hsa A j
    have HRZ : Hid (∀ u1 L1 vl1, Kr m ca u L vl u1 L1 vl1 → Rz u1 oa N oc od) := fun u1 L1 vl1 hk => by
      rw [hod, hNN, hoa, hoc]
      exact rz_of_rdm (hk.rd hK hs (by simp [ros]) (hK.pf.rows x e hs).ok.no.od)
    have hN63 := (HRZ.out _ _ _ (Kr.refl (Below.refl _ _))).small.1
    have HLN := hid (HRZ.out _ _ _ (Kr.refl (Below.refl _ _))).len
    have HBT : Hid (∀ j k, od[j]? = some k → Bt k) := fun j k hj => by
      by_cases hk0 : k = 0
      · rw [hk0]
        exact bt0
      · obtain ⟨c0, hc0, _⟩ := hI.kid x e.s.f hsa k (.inr (.inr (by show k ∈ un1 e.s.no.od.l; rw [← hod]; exact List.mem_of_getElem? hj))) hk0
        rw [gt_pab] at hc0
        obtain ⟨e0, he0, _⟩ := Option.map_eq_some_iff.1 hc0
        exact (hNk.key k e0 he0).1
    have HFE : Hid (∀ u1 L1 vl1, Kr m ca u L vl u1 L1 vl1 → Fe u1 es) := fun u1 L1 vl1 hk => hE.kb (hk.bel hK) hB
    have HREC : Hid (∀ (L1 : Po) (A1 : List Int) (j : Nat) (k : Int), Fld (pab L) mm (pab L1) → A1.length ≤ A.length + 40 → od[j]? = some k → k ≠ 0 → ∀ (wc : World) (L2 : Po) (vv : Value) (A2 : List Int) (e2 : Ps), Kab base B wc p m L2 cf ca cb vv A2 → Kr m ca u L vl wc L2 vv → gt L2 k = some e2 → (pab L2 = pab L1 ∧ A2 = A1 ∨ pab L2 = upd (pab L1) k aplS ∧ A2 = A1 ++ [k]) → Calls Tryd.prog 43 (#[.pointer (some ⟨e2.g, 0, none⟩)] ++ #[.pointer (some ⟨cf, 0, none⟩), .pointer (some ⟨ca, 0, none⟩), .pointer (some ⟨cb, 0, none⟩)]) wc (KbR base B p m cf ca cb wc L2 vv (kds n (pab L2) k A2))) := fun L1 A1 j k hF hl1 hj hk0 wc L2 vv A2 e2 hK2 hKr hg2 h2 => by
      obtain ⟨c0, hc0, hpar⟩ := hI.kid x e.s.f hsa k (.inr (.inr (by show k ∈ un1 e.s.no.od.l; rw [← hod]; exact List.mem_of_getElem? hj))) hk0
      have hdk := dpt_lt hI.acy hc0
      rw [hpar] at hdk
      have hdl := dpt_le (pab L) k
      have hFl := hI.len
      obtain ⟨n', rfl⟩ : ∃ n', n = n' + 1 := ⟨n - 1, by omega⟩
      have hall : Fld (pab L) mm (pab L2) ∧ A2.length ≤ A.length + 41 := by
        rcases h2 with ⟨e1, e2⟩ | ⟨e1, e2⟩
        · rw [e1, e2]
          exact ⟨hF, by omega⟩
        · rw [e1, e2]
          exact ⟨⟨hF.inv.apls k, hF.nof.turn _ _ fun s _ hs => hs.apls, hF.szf.turn (Nat.le_refl mm) _ _ fun s hs => hs.apls, hF.tre.trans (tre_upd _ k aplS (fun _ => ⟨rfl, rfl⟩))⟩, by rw [List.length_append]; simp; omega⟩
      obtain ⟨hF2, hl2⟩ := hall
      have hd2 := hF2.tre.dpt k
      exact ih n' (by omega) k wc L2 vv A2 e2 hK2 (hE.kb (hKr.bel hK) hB) hF2.inv hF2.nof hF2.szf (hNk.tre hF2.tre) hg2 (by omega) (by omega) (by omega)
    have HKST0 : Hid (∀ (L1 : Po) (A1 : List Int) (k : Int), sy (pab L1) k = false → kst n (pab L1, A1) k = (pab L1, A1)) := fun L1 A1 k h1 => by
      unfold kst
      cases gt (pab L1) k with
      | none => rfl
      | some c => exact if_pos (.inr h1)
    have HKST2 : Hid (∀ (L1 : Po) (A1 : List Int) (k : Int) (c : Ps), gt L1 k = some c → k ≠ 0 → sy (pab L1) k = true → ∀ (L2 : Po) (A2 : List Int), (non c.s.ca.q = true ∧ pab L2 = pab L1 ∧ A2 = A1 ∨ non c.s.ca.q = false ∧ pab L2 = upd (pab L1) k aplS ∧ A2 = A1 ++ [k]) → kst n (pab L1, A1) k = kds n (pab L2) k A2) := fun L1 A1 k c h h0 h1 L2 A2 h2 => by
      unfold kst
      rw [gt_pab, h]
      show (if k = 0 ∨ sy (pab L1) k = false then _ else if non c.s.ca.q then _ else _) = _
      rw [if_neg (by rw [h1]; simp [h0])]
      rcases h2 with ⟨e, e1, e2⟩ | ⟨e, e1, e2⟩
      · rw [e, e1, e2]; rfl
      · rw [e, e1, e2]; rfl
    have HNK : Hid (∀ L1, Tre (pab L) (pab L1) → Nok L1) := fun L1 ht => hNk.tre ht
    have HK := hid hK
    have c28 : u.cell? ⟨e.g, 28, none⟩ = some (.slice oa N oc) := by rw [hNN, hoa, hoc]; exact hK.pf.cell hs
    have hlt := (hK.pf.wlt hs (mem_wb.2 (.inl rfl))).2
    clear hK hE hI hN hZ hNk hs hsa hod hNN hoa hoc ih hd hn
    go_enter Tryd.func43, Tryd.ntmps43
    go_wp2
    go_loopw [14] (fun i wr => ∃ j : Nat, i = .int .i64 j ∧ j ≤ N ∧ ∃ L1 vv, Kab base B wr p m L1 cf ca cb vv ((od.take j).foldl (kst n) (pab L, A)).2 ∧ pab L1 = ((od.take j).foldl (kst n) (pab L, A)).1 ∧ Kr m ca u L vl wr L1 vv) (fun i _ => N - (numOf i).toNat)
    case atStart => exact ⟨0, rfl, by omega, L, vl, HK.out, rfl, Kr.refl (Below.refl _ _)⟩
    case round =>
      obtain ⟨j, rfl, hj, L1, vv, hK1, ha1, hb1⟩ := hrel
      obtain ⟨hF, hlen⟩ := HFLD.out j
      clear c28 hlt
      by_cases hgo : j < N
      · have e1 : decide ((j : Int) < N) = true := decide_eq_true (by omega)
        have e2 : (j : Int) < N := by omega
        obtain ⟨bl, off, k, ha, _, hk, ck⟩ := (HRZ.out _ _ _ hb1).at_ (j := j) hgo
        have HFT := hid (fold_take hk (kst n) (pab L, A))
        obtain ⟨⟨F1, A1⟩, hr1⟩ : ∃ r1, r1 = (od.take j).foldl (kst n) (pab L, A) := ⟨_, rfl⟩
        rw [← hr1] at hK1 ha1 hF hlen HFT
        dsimp only at hK1 ha1 hF hlen
        subst ha1
        subst ha
        have HKJ := hid hk
        have hNk1 := HNK.out L1 hF.tre
        have CSY := hid (fsynced_one (HFE.out _ _ _ hb1) hK1.pf hNk1 k (HBT.out j k hk))
        have HK1 := hid hK1
        have HB1 := hid hb1
        have HF := hid hF
        have f1 : wr.cell? ⟨cf, 0, none⟩ = some (.pointer (some ⟨p, 0, none⟩)) := hK1.kf.cell 0
        have f2 := hK1.kf.lt
        clear hr1
        cases hsy : sy (pab L1) k with
        | false =>
          rw [hsy] at CSY
          rw [HKST0.out L1 A1 k hsy] at HFT
          have HX : Hid (∀ q, Kab base B (wr.drewN q) p m L1 cf ca cb vv A1 ∧ Kr m ca u L vl (wr.drewN q) L1 vv) := fun q => ⟨hK1.on (below_drewN (Below.refl _ _) q), hb1.trans (Kr.refl (below_drewN (Below.refl _ _) q))⟩
          clear hk hF hb1 hK1 hsy hNk1
          go_wp2_with fail
          refine CSY.out.mono ?_
          rintro e' w6 ⟨rfl, q6, rfl⟩
          have HY := hid (HX.out q6)
          go_wp2
          go_roundw
          case rel => exact ⟨j + 1, by go_num, by omega, L1, vv, by rw [HFT.out]; exact HY.out.1, by rw [HFT.out], HY.out.2⟩
          case measure => simp [numOf]; omega
        | true =>
          rw [hsy] at CSY
          obtain ⟨c, hc⟩ : ∃ c, gt L1 k = some c := by
            cases hc : gt L1 k with
            | some c => exact ⟨c, rfl⟩
            | none =>
              rw [sy_none (by rw [gt_pab, hc]; rfl)] at hsy
              cases hsy
          have hk0 : k ≠ 0 := fun e0 => by
            rw [e0, hNk1.zero] at hc
            cases hc
          have HST := hid (HKST2.out L1 A1 k c hc hk0 hsy)
          have hokc := (hK1.pf.rows k c hc).ok
          obtain ⟨-, l2, l3⟩ := zs_len (HF.out.szf k c.s.f (by rw [gt_pab, hc]; rfl)) hokc hm
          have HK0 := hid hk0
          have HP : Hid (∀ W : World, Below wr.heap.size wr W → (Instr.lookup 34 (.map (some m)) (.int .i64 k) false).run Tryd.prog W = .ok (.pointer (some ⟨c.g, 0, none⟩)) W ∧ W.cell? ⟨p, 0, none⟩ = some (.map (some m)) ∧ p < W.heap.size ∧ c.g < W.heap.size) := fun W hW => by
            have h1 := hK1.pf.on hW
            have h2 := h1.run (k := k) (HBT.out j k hk)
            rw [pto, hc] at h2
            exact ⟨h2, h1.c0, h1.lt.1, (h1.wlt hc (mem_wb.2 (.inl rfl))).2⟩
          have HCC : Hid (∀ W : World, Below wr.heap.size wr W → (W.cell? ⟨c.g, 10, none⟩ = some (.bool c.s.ca.at_) ∧ W.cell? ⟨c.g, 11, none⟩ = some (.int .i64 c.s.ca.buf) ∧ W.cell? ⟨c.g, 12, none⟩ = some (.slice c.s.ca.dm.a c.s.ca.dm.n c.s.ca.dm.c) ∧ W.cell? ⟨c.g, 13, none⟩ = some (.slice c.s.ca.fr.a c.s.ca.fr.n c.s.ca.fr.c) ∧ W.cell? ⟨c.g, 14, none⟩ = some (.bool c.s.ca.inp) ∧ W.cell? ⟨c.g, 15, none⟩ = some (.bool c.s.ca.all) ∧ W.cell? ⟨c.g, 16, none⟩ = some (.slice c.s.ca.rg.a c.s.ca.rg.n c.s.ca.rg.c) ∧ W.cell? ⟨c.g, 17, none⟩ = some (.bool c.s.ca.ord) ∧ W.cell? ⟨c.g, 18, none⟩ = some (.slice c.s.ca.od.a c.s.ca.od.n c.s.ca.od.c) ∧ W.cell? ⟨c.g, 19, none⟩ = some (.slice c.s.ca.pl.a c.s.ca.pl.n c.s.ca.pl.c)) ∧ c.s.ca.Ok W) := fun W hW => ⟨((hK1.pf.on hW).cells hc).2.1, ((hK1.pf.on hW).rows k c hc).ok.ca⟩
          have HAP : Hid (∀ W : World, Below wr.heap.size wr W → Calls Tryd.prog 35 #[.pointer (some ⟨c.g, 0, none⟩)] W fun e' w' => e' = .returned undef ∧ ∃ L2, Kab base B w' p m L2 cf ca cb vv A1 ∧ Kr m ca u L vl w' L2 vv ∧ pab L2 = upd (pab L1) k aplS ∧ ∃ c2 : Ps, gt L2 k = some c2 ∧ c2.g = c.g) := fun W hW => by
            have hKW := hK1.on hW
            refine (fapply_any hKW.pf hc l2 l3).mono fun e' w' ⟨h1, r, _, hR⟩ => ⟨h1, _, hKW.pfr hR, (hb1.trans (Kr.refl hW)).trans (Kr.pfr hR), hR.ab, ⟨c.g, { c.s with no := r, ca := sx0 }⟩, ?_, rfl⟩
            rw [gt_st, if_pos rfl, hc]
            rfl
          have HX : Hid (∀ W, Below wr.heap.size wr W → Kab base B W p m L1 cf ca cb vv A1 ∧ Kr m ca u L vl W L1 vv) := fun W hW => ⟨hK1.on hW, hb1.trans (Kr.refl hW)⟩
          have HCG := hid hc
          clear hk hF hb1 hK1 hsy hNk1 hk0 hokc l2 l3 hc HK1 HB1
          go_wp2_with fail
          refine CSY.out.mono ?_
          rintro e' w6 ⟨rfl, q6, hw6⟩
          have hb6 : Below wr.heap.size wr w6 := by rw [hw6]; exact below_drewN (Below.refl _ _) q6
          obtain ⟨t1, t2, t3, t4⟩ := HP.out _ hb6
          obtain ⟨⟨a0, a1, a2, a3, a4, a5, a6, a7, a8, a9⟩, okc⟩ := HCC.out _ hb6
          have f3 : w6.cell? ⟨cf, 0, none⟩ = some (.pointer (some ⟨p, 0, none⟩)) := (HX.out _ hb6).1.kf.cell 0
          have f4 := (HX.out _ hb6).1.kf.lt
          have CNO := hid (none_any c.s.ca w6 okc)
          have HB6 := hid hb6
          clear hw6 hb6 CSY okc HP HCC f1 f2 ck
          go_wp2_with fail
          refine CNO.out.mono ?_
          rintro e' w7 ⟨rfl, hb7⟩
          have HB7 := hid (Below.on HB6.out hb7)
          clear hb7 CNO t1 t2 t3 t4 a0 a1 a2 a3 a4 a5 a6 a7 a8 a9 f3 f4 HB6
          go_upto_if 33 with fail
          go_cut [] (fun wc => ∃ L2 vv2 A2, Kab base B wc p m L2 cf ca cb vv2 A2 ∧ (non c.s.ca.q = true ∧ pab L2 = pab L1 ∧ A2 = A1 ∨ non c.s.ca.q = false ∧ pab L2 = upd (pab L1) k aplS ∧ A2 = A1 ++ [k]) ∧ Kr m ca u L vl wc L2 vv2 ∧ ∃ c2 : Ps, gt L2 k = some c2 ∧ c2.g = c.g)
          case first =>
            cases hno : non c.s.ca.q with
            | true =>
              go_wp2
              go_meet
              exact ⟨L1, vv, A1, (HX.out _ HB7.out).1, .inl ⟨hno, rfl, rfl⟩, (HX.out _ HB7.out).2, c, HCG.out, rfl⟩
            | false =>
              go_wp2_with fail
              refine (HAP.out _ HB7.out).mono ?_
              rintro e' w8 ⟨rfl, L2, hK8, hKr8, hab8, hc8⟩
              have h9 := bel_new w8 (.cells #[.int .i64 k] 3)
              have hK9 := hK8.on h9
              have HKR := hid (hKr8.trans (Kr.refl h9))
              have HAB := hid hab8
              have HC8 := hid hc8
              have d1 : w8.cell? ⟨ca, 0, none⟩ = some vv := hK8.ka.cell 0
              have d2 := hK8.ka.lt
              obtain ⟨va, vc, hvv⟩ := own_val hK8.row
              have HOW := hid hK9.row
              have HSL := hid (srcLit w8 k)
              have hws : B ≤ (w8.alloc (.cells #[.int .i64 k] 3)).heap.size := by
                have h1 := (hK9.ext ca (by simp)).2.2.2.2
                have h2 := hK9.ka.lt
                omega
              have HAPP : Hid (∀ v3 w3, w3.ownsRow B 3 1 v3 (A1.length + 1) (ic A1 ++ ic [k]) → (w8.alloc (.cells #[.int .i64 k] 3)).grownBy w3 vv.ownBlock → (v3.ownBlock = vv.ownBlock ∨ v3.ownBlock = some (w8.alloc (.cells #[.int .i64 k] 3)).heap.size) → ∃ a c, v3 = .slice a (A1.length + 1) c ∧ w3.cell? ⟨ca, 0, none⟩ = some vv ∧ (∀ j, w3.frozen? ⟨ca, j, none⟩ = false) ∧ ca < w3.heap.size ∧ ∃ W4, W4 = w3.setCell ⟨ca, 0, none⟩ (.slice a (A1.length + 1) c) ∧ Kab base B W4 p m L2 cf ca cb v3 (A1 ++ [k]) ∧ Kr m ca u L vl W4 L2 v3) := fun v3 w3 o3 g3 a3 => by
                obtain ⟨a, c, hv3⟩ := own_val o3
                obtain ⟨k1, k2, k3, k4, k5, -⟩ := hK9.app o3 g3 a3
                refine ⟨a, c, hv3, k1, k2, k3, _, rfl, ?_, ?_⟩
                · rw [← hv3]
                  show Ka _ _ _ _ _ _ _ _ _ _ _ _ _ _ _ (A1 ++ [k]).length (ic (A1 ++ [k]))
                  rw [ic_append, List.length_append]
                  exact k4
                · rw [← hv3]
                  exact HKR.out.trans k5
              subst hvv
              clear hK8 hK9 hKr8 hab8 hc8 h9
              generalize A1.length = m9 at *
              go_wp2_with (at_builtin; refine wpList_append_own_at _ rfl (.tmp 36) (.tmp 38) 40 40 rfl B 3 i0 (.int .i64 0) 1 8 Tryd.underlying40 hi hz0 hz1 hz2 rfl _ _ _ rfl HOW.out _ _ _ rfl HSL.out (by simp only [maxLen]; omega) (fitsM (by omega) (by decide)) hws ?_; intro v3 w3 o3 g3 a3; obtain ⟨av, cv, rfl, d3, d4, d5, W4, hW4, hK4, hR4⟩ := HAPP.out _ _ o3 g3 a3; have HW4 := hid hW4; have HK4 := hid hK4; have HR4 := hid hR4; clear o3 g3 a3 hW4 hK4 hR4)
              go_meet
              rw [← HW4.out]
              exact ⟨L2, _, _, HK4.out, .inr ⟨hno, HAB.out, rfl⟩, HR4.out, HC8.out⟩
          case rest =>
            obtain ⟨L2, vv2, A2, hK2, h2, hb2, c2, hc2, hg2⟩ := hcut
            have hkk := HST.out L2 A2 h2
            rw [hkk] at HFT
            have CRE := hid (HREC.out L1 A1 j k HF.out hlen HKJ.out HK0.out _ L2 _ A2 c2 hK2 hb2 hc2 (h2.imp (fun h => ⟨h.2.1, h.2.2⟩) (fun h => ⟨h.2.1, h.2.2⟩)))
            rw [hg2] at CRE
            have HB2 := hid hb2
            have b1 : wc.cell? ⟨cb, 0, none⟩ = some (fvB cf ca cb) := hK2.kb.cell 0
            have b2 := hK2.kb.lt
            rw [fvB] at b1
            clear hkk hK2 h2 hb2 HST HX HAP HB7 hc2 hg2
            go_wp2_with fail
            refine CRE.out.mono ?_
            rintro e' w9 ⟨rfl, L9, v9, hK9, ha9, hb9⟩
            rw [← HFT.out] at hK9 ha9
            have HK9 := hid hK9
            have HA9 := hid ha9
            have HB9 := hid (HB2.out.trans hb9)
            clear hK9 ha9 hb9 CRE HB2 b1 b2
            go_wp2
            go_roundw
            case rel => exact ⟨j + 1, by go_num, by omega, L9, v9, HK9.out, HA9.out, HB9.out⟩
            case measure => simp [numOf]; omega
      · have e1 : decide ((j : Int) < N) = false := decide_eq_false (by omega)
        obtain rfl : j = N := by omega
        rw [List.take_of_length_le (by rw [HLN.out]; exact Nat.le_refl _), ← HFIN.out] at hK1 ha1
        have HX : Hid (KbR base B p m cf ca cb u L vl (kds (n + 1) (pab L) x A) (.returned undef) wr) := ⟨rfl, L1, vv, hK1, ha1, hb1⟩
        clear hK1 ha1 hb1 hF
        go_wp2
        go_end0
        exact HX.out
end Go.Proofs.YtdgknofpkafppabDoor

/- The program's forest: applyBelow, Commit. -/
namespace Go.Proofs.YtdgknofpkafppabDoor
open Go Go.RowKit

theorem kds_acc : ∀ (n : Nat) (F : Fo) (x : Int) (l a : List Int), kds n F x (l ++ a) = ((kds n F x a).1, l ++ (kds n F x a).2)
  | 0, F, x, l, a => rfl
  | n + 1, F, x, l, a => by
    rw [kds_succ, kds_succ]
    split
    · rfl
    · rename_i s _
      have hst : ∀ (r : Fo × List Int) (k : Int), kst n (r.1, l ++ r.2) k = ((kst n r k).1, l ++ (kst n r k).2) := fun r k => by
        unfold kst
        dsimp only
        split
        · rfl
        · split
          · rfl
          · split
            · exact kds_acc n _ _ _ _
            · rw [List.append_assoc]
              exact kds_acc n _ _ _ _
      have hf : ∀ (L : List Int) (r : Fo × List Int), L.foldl (kst n) (r.1, l ++ r.2) = ((L.foldl (kst n) r).1, l ++ (L.foldl (kst n) r).2) := fun L => by
        induction L with
        | nil => exact fun r => rfl
        | cons k L ih =>
          intro r
          rw [List.foldl_cons, List.foldl_cons, hst]
          exact ih _
      exact hf _ (F, a)

variable {base B : Nat} {w u w' : World} {p m : Nat} {L L' : Po} {F : Fo} {id : Int} {es : List Addr} {e : Ps}
set_option maxRecDepth 100000 in
set_option maxHeartbeats 1000000 in
theorem fapplybelow_any {mm : Nat} (hm : mm ≤ 900) (hE : Fe w es) (hB : 16 ≤ base) (h : Pf base w p m L) (hF : Fok mm (pab L)) (he : gt L id = some e) :
    Calls Tryd.prog 36 #[.pointer (some ⟨p, 0, none⟩), .pointer (some ⟨e.g, 0, none⟩)] w fun e' w' => ∃ L' vl, e' = .returned vl ∧ w'.ownsRow w.heap.size 3 1 vl (kds 41 (pab L) id []).2.length (ic (kds 41 (pab L) id []).2) ∧ PfR base w p m L (kds 41 (pab L) id []).1 w' L' := by
  have hlo : base ≤ w.heap.size := by
    have := h.lt.1
    have := h.lop
    omega
  have HW : Hid (∀ u : World, Below w.heap.size w u → Bk u w.heap.size 23 #[.pointer (some ⟨p, 0, none⟩)] → Bk u (w.heap.size + 1) 40 #[.slice none 0 0] → Bk u (w.heap.size + 1 + 1) 94 #[.func (.func 43) #[] #[.pointer (some ⟨w.heap.size, 0, none⟩), .pointer (some ⟨w.heap.size + 1, 0, none⟩), .pointer (some ⟨w.heap.size + 1 + 1, 0, none⟩)]] →
      Calls Tryd.prog 43 (#[.pointer (some ⟨e.g, 0, none⟩)] ++ #[.pointer (some ⟨w.heap.size, 0, none⟩), .pointer (some ⟨w.heap.size + 1, 0, none⟩), .pointer (some ⟨w.heap.size + 1 + 1, 0, none⟩)]) u fun e' w' => e' = .returned undef ∧ ∃ L' vl, w'.cell? ⟨w.heap.size + 1, 0, none⟩ = some vl ∧ w.heap.size + 1 < w'.heap.size ∧ w'.ownsRow w.heap.size 3 1 vl (kds 41 (pab L) id []).2.length (ic (kds 41 (pab L) id []).2) ∧ PfR base w p m L (kds 41 (pab L) id []).1 w' L') := fun u hb k1 k2 k3 => by
    have hK : Kab base w.heap.size u p m L w.heap.size (w.heap.size + 1) (w.heap.size + 1 + 1) (.slice none 0 0) [] := ka_new h hlo hb k1 k2 k3
    refine (fwaits_any hm hB 40 id u L (.slice none 0 0) [] e hK (hE.on hb) hF.inv hF.nof hF.szf hF.nok he (by omega) (by omega) (by simp)).mono ?_
    rintro e' w' ⟨h1, L', vl', hK', hab, hKr⟩
    exact ⟨h1, L', vl', hK'.ka.cell 0, hK'.ka.lt, hK'.row, Ka.out h hb hK hKr hK'.pf hab⟩
  have eg := enters_of Tryd.func43 (by kernel_rfl) rfl
  obtain ⟨W3, hW3⟩ : ∃ W3, W3 = (((w.alloc (.cells #[.pointer (some ⟨p, 0, none⟩)] 23)).alloc (.cells #[.slice none 0 0] 40)).alloc (.cells #[.nilFunc] 94)) := ⟨_, rfl⟩
  have b1 := bel_new w (.cells #[.pointer (some ⟨p, 0, none⟩)] 23)
  have b2 := bel_new (w.alloc (.cells #[.pointer (some ⟨p, 0, none⟩)] 23)) (.cells #[.slice none 0 0] 40)
  have b3 := bel_new ((w.alloc (.cells #[.pointer (some ⟨p, 0, none⟩)] 23)).alloc (.cells #[.slice none 0 0] 40)) (.cells #[.nilFunc] 94)
  have k1 := ((bk_new w #[.pointer (some ⟨p, 0, none⟩)] 23).on b2).on b3
  have k2 := (bk_new (w.alloc (.cells #[.pointer (some ⟨p, 0, none⟩)] 23)) #[.slice none 0 0] 40).on b3
  have k3 := bk_new ((w.alloc (.cells #[.pointer (some ⟨p, 0, none⟩)] 23)).alloc (.cells #[.slice none 0 0] 40)) #[.nilFunc] 94
  have hb3 := Below.on (Below.on b1 b2) b3
  simp only [size_new] at k2 k3
  rw [← hW3] at k1 k2 k3 hb3
  have k4 := k3.set 0 (.func (.func 43) #[] #[.pointer (some ⟨w.heap.size, 0, none⟩), .pointer (some ⟨w.heap.size + 1, 0, none⟩), .pointer (some ⟨w.heap.size + 1 + 1, 0, none⟩)])
  have k5 := k1.other (show w.heap.size ≠ w.heap.size + 1 + 1 by omega) 0 (.func (.func 43) #[] #[.pointer (some ⟨w.heap.size, 0, none⟩), .pointer (some ⟨w.heap.size + 1, 0, none⟩), .pointer (some ⟨w.heap.size + 1 + 1, 0, none⟩)])
  have k6 := k2.other (show w.heap.size + 1 ≠ w.heap.size + 1 + 1 by omega) 0 (.func (.func 43) #[] #[.pointer (some ⟨w.heap.size, 0, none⟩), .pointer (some ⟨w.heap.size + 1, 0, none⟩), .pointer (some ⟨w.heap.size + 1 + 1, 0, none⟩)])
  have HX := hid (HW.out (W3.setCell ⟨w.heap.size + 1 + 1, 0, none⟩ (.func (.func 43) #[] #[.pointer (some ⟨w.heap.size, 0, none⟩), .pointer (some ⟨w.heap.size + 1, 0, none⟩), .pointer (some ⟨w.heap.size + 1 + 1, 0, none⟩)])) (hb3.setCell (p := ⟨w.heap.size + 1 + 1, 0, none⟩) (by show w.heap.size ≤ w.heap.size + 1 + 1; omega) _) k5 k6 k4)
  have d1 : W3.cell? ⟨w.heap.size + 1 + 1, 0, none⟩ = some .nilFunc := k3.cell 0
  have d2 := k3.fz
  have d3 := k3.lt
  have d4 : (W3.setCell ⟨w.heap.size + 1 + 1, 0, none⟩ (.func (.func 43) #[] #[.pointer (some ⟨w.heap.size, 0, none⟩), .pointer (some ⟨w.heap.size + 1, 0, none⟩), .pointer (some ⟨w.heap.size + 1 + 1, 0, none⟩)])).cell? ⟨w.heap.size + 1 + 1, 0, none⟩ = some (.func (.func 43) #[] #[.pointer (some ⟨w.heap.size, 0, none⟩), .pointer (some ⟨w.heap.size + 1, 0, none⟩), .pointer (some ⟨w.heap.size + 1 + 1, 0, none⟩)]) := k4.cell 0
  have HW3 := hid hW3
  clear hE h hF he hlo b1 b2 b3 k1 k2 k3 k4 k5 k6 hb3 hW3 HW
  go_enter Tryd.func36, Tryd.ntmps36
  go_upto_region 3 with fail
  rw [← HW3.out]
  go_wp2_with fail
  refine HX.out.mono ?_
  rintro e' w5 ⟨rfl, L5, vl, c5, l5, ho5, hR5⟩
  have HO := hid ho5
  have HR := hid hR5
  clear ho5 hR5 HX d1 d2 d3 d4
  go_wp2
  go_ret
  exact ⟨L5, vl, rfl, HO.out, HR.out⟩
end Go.Proofs.YtdgknofpkafppabDoor
