/- Lemmas that the proof leans on. -/
import Derived.Test.YtkjempffidndeaaGreatDoorB43
namespace Go.Proofs.YtkjempffidndeaaGreatDoor
open Go Go.RowKit
set_option maxRecDepth 100000
set_option maxHeartbeats 2000000
section
variable {es : List Addr} {w0 w w' : World} {p q mm : Nat} {F : Fo} {Z : List Nat}
structure Nw (u : World) (g P : Nat) (z : Int) (s : Sr) : Prop where
 lt : g < u.heap.size
 id : u.cell? ⟨g, P, none⟩ = some (.int .i64 z)
 par : u.cell? ⟨g, P + 1, none⟩ = some (.int .i64 s.par)
 buf : u.cell? ⟨g, P + 23 + 1, none⟩ = some (.int .i64 s.no.buf)
 all : u.cell? ⟨g, P + 23 + 5, none⟩ = some (.bool s.no.all)
 rg : u.cell? ⟨g, P + 23 + 6, none⟩ = some (.slice s.no.rg.a s.no.rg.n s.no.rg.c)
 rd : RdM 4 u s.no.rg.a s.no.rg.n s.no.rg.c s.no.rg.l
theorem Nw.on {u v : World} {g P : Nat} {z : Int} {s : Sr} (h : Nw u g P z s) (hb : Below u.heap.size u v) : Nw v g P z s :=
 ⟨Nat.lt_of_lt_of_le h.lt hb.size, by rw [hb.cell h.lt]; exact h.id, by rw [hb.cell h.lt]; exact h.par, by rw [hb.cell h.lt]; exact h.buf, by rw [hb.cell h.lt]; exact h.all, by rw [hb.cell h.lt]; exact h.rg, h.rd.on hb⟩
theorem Dq.here (h : Dq w0 q mm F w Z) {z : Int} {t : Sf} (hz : gt F z = some t) : ∃ g P s, s.f = t ∧ Nw w g P z s ∧ ∀ u, RowKit.Below w.heap.size w u → Calls Tryz.prog 26 #[.pointer (some ⟨q, 0, none⟩), .int .i64 z] u (fun e w' => e = .returned (.pointer (some ⟨g, P, none⟩)) ∧ w' = u) := by
 obtain ⟨g1, g4, hq, v, L, hD, rfl, rfl⟩ := h
 rw [gt_abs] at hz
 cases hs : gt L z with
 | none => rw [hs] at hz; cases hz
 | some s =>
  rw [hs] at hz
  have hnd : (keys L).Nodup := by rw [← abs_keys]; exact g4.inv.nod
  obtain ⟨i, hi, hah⟩ := at_key hs
  obtain ⟨a, c, _, _, _, _, hat⟩ := hD.val
  obtain ⟨g, _, hg, _⟩ := hat i _ hi
  have ca : ∀ {j : Nat}, j < 33 → w.cell? ⟨g, i * 33 + j, none⟩ = (scs (z, s))[j]? := fun hj => hD.at_ hi hg hj
  refine ⟨g, i * 33, s, Option.some.inj hz, ⟨(hD.glt hg).2, ca (j := 0) (by omega), ca (j := 1) (by omega), ca (j := 24) (by omega), ca (j := 28) (by omega), ca (j := 29) (by omega), (hD.ok _ (Df.mem hi)).no.rg⟩, fun u hu => (rs_any (hD.on hu) z).mono fun _ _ ⟨r, h1, h2, h3⟩ => ⟨?_, h3⟩⟩
  obtain ⟨g', i', h4, h5, h6⟩ := h2.ys hs
  rw [hg] at h5
  cases h5
  have : i' = i := by
   have hl1 := (List.getElem?_eq_some_iff.1 hi).1
   have hl2 := (List.getElem?_eq_some_iff.1 h6).1
   rcases Nat.lt_or_ge i' i with h7 | h7
   ·exact absurd rfl (hah i' _ h7 h6)
   ·rcases Nat.lt_or_ge i i' with h8 | h8
    ·have k1 : (keys L)[i]? = some z := by rw [keys, List.getElem?_map, hi]; rfl
     have k2 : (keys L)[i']? = some z := by rw [keys, List.getElem?_map, h6]; rfl
     exact (((List.getElem?_inj (by rw [keys, List.length_map]; exact hl1) hnd).1 (by rw [k1, k2]))).symm
    ·omega
  rw [h1, h4, this]
theorem Dq.away (h : Dq w0 q mm F w Z) {z : Int} (hz : gt F z = none) (u : World) (hu : RowKit.Below w.heap.size w u) : Calls Tryz.prog 26 #[.pointer (some ⟨q, 0, none⟩), .int .i64 z] u (fun e w' => e = .returned (.pointer none) ∧ w' = u) := by
 obtain ⟨g1, g4, hq, v, L, hD, rfl, rfl⟩ := h
 rw [gt_abs] at hz
 have hs : gt L z = none := by
  cases hs : gt L z with
  | none => rfl
  | some s => rw [hs] at hz; cases hz
 exact (rs_any (hD.on hu) z).mono fun _ _ ⟨r, h1, h2, h3⟩ => ⟨by rw [h1, h2.no hs], h3⟩
theorem Dq.walks (h : Dq w0 q mm F w Z) (z : Int) (u : World) (hu : RowKit.Below w.heap.size w u) : Calls Tryz.prog 25 #[.pointer (some ⟨q, 0, none⟩), .int .i64 z] u fun e w' => ∃ a c, e = .returned (.slice a (Proofs.YtkjempffidndeaaGreatDoor.wlk F 41 z 0 0).length c) ∧ RdM 3 w' a (Proofs.YtkjempffidndeaaGreatDoor.wlk F 41 z 0 0).length c (Proofs.YtkjempffidndeaaGreatDoor.wlk F 41 z 0 0) ∧ (∀ x, a = some x → u.heap.size ≤ x.block) ∧ RowKit.Below u.heap.size u w' := by
 obtain ⟨g1, g4, hq, v, L, hD, rfl, rfl⟩ := h
 refine (rWalk_any (hD.on hu) g4.inv g4.nof g4.szf z).mono fun _ _ ⟨v', h1, h2⟩ => ?_
 obtain ⟨a, c, rfl, hr, hx⟩ := h2.rd
 exact ⟨a, c, h1, hr, fun x hx' => (hx x hx').1, h2.bel⟩
theorem Dq.ok (h : Dq w0 q mm F w Z) : Fok mm F := h.2.1
theorem redg_any (z : Int) (hz : Bt z) (w : World) : Calls Tryz.prog 27 #[.int .i64 z] w fun e w' => e = .returned (.int .i64 (edg z)) ∧ w' = w := by
 have h1 := hz.1
 have h2 := hz.2
 have HE : Hid (∀ x, x = edg z → Ending.returned (.int .i64 x) = Ending.returned (.int .i64 (edg z))) := fun x hx => by rw [hx]
 go_enter Tryz.func27, Tryz.ntmps27
 go_wp2
 go_ret
 exact ⟨HE.out _ (by unfold edg; omega), rfl⟩
theorem rroot_any (h : Dq w0 q mm F w Z) (id : Int) : Calls Tryz.prog 14 #[.pointer (some ⟨q, 0, none⟩), .int .i64 id] w fun e w' => e = .returned (.int .i64 (rtF F id)) ∧ w' = w := by
 cases hg : gt F id with
 | none =>
  have CS := hid (h.away hg w (Below.refl _ _))
  have HE : Hid (rtF F id = 0) := rt_none hg
  clear h hg
  go_enter Tryz.func14, Tryz.ntmps14
  go_wp2_with fail
  refine CS.out.mono ?_
  rintro e u ⟨rfl, rfl⟩
  go_wp2
  go_ret
  rw [HE.out]
  exact ⟨rfl, rfl⟩
 | some t =>
  obtain ⟨g, P, s, hst, hn, hc⟩ := h.here hg
  have CS := hid (hc w (Below.refl _ _))
  have HN := hid hn
  have HT : Hid (gt F id = some s.f) := by rw [hst]; exact hg
  have HD := hid h
  have hlt := hn.lt
  clear h hg hst hn hc
  go_enter Tryz.func14, Tryz.ntmps14
  go_wp2_with fail
  refine CS.out.mono ?_
  rintro e u ⟨rfl, rfl⟩
  clear CS
  go_wp2
  go_loopw [5] (fun v wr => ∃ (g P : Nat) (s : Sr) (x : Int), v = .pointer (some ⟨g, P, none⟩) ∧ Nw u g P x s ∧ gt F x = some s.f ∧ rtF F x = rtF F id ∧ wr = u) (fun v _ => match v with | .pointer (some a) => (match u.cell? a with | some c => dpt F (numOf c) | none => 0) | _ => 0)
  case atStart => exact ⟨g, P, s, id, rfl, HN.out, HT.out, rfl, rfl⟩
  case round =>
   obtain ⟨g1, P1, s1, x, rfl, hn1, hg1, hrt, hwr⟩ := hrel
   obtain rfl : wr = u := hwr
   have c0 := hn1.id
   have c1 := hn1.par
   have hl1 := hn1.lt
   by_cases h0 : s1.par = 0
   ·have HE : Hid (rtF F id = x) := hrt.symm.trans (HD.out.ok.inv.rt_top hg1 h0)
    have e0 : (s1.par != 0) = false := by simpa using h0
    clear hg1 hrt hn1 h0
    go_wp2
    go_ret
    rw [HE.out]
    exact ⟨rfl, rfl⟩
   ·obtain ⟨t2, ht2⟩ := HD.out.ok.inv.acy.par x _ hg1 h0
    obtain ⟨g2, P2, s2, hst2, hn2, hc2⟩ := HD.out.here ht2
    have CS2 := hid (hc2 wr (Below.refl _ _))
    have HN2 := hid hn2
    have HT2 : Hid (gt F s1.par = some s2.f) := by rw [hst2]; exact ht2
    have HR2 : Hid (rtF F s1.par = rtF F id) := (HD.out.ok.inv.rt_up hg1 h0).symm.trans hrt
    have HL : Hid (dpt F s1.par < dpt F x) := dpt_lt HD.out.ok.inv.acy hg1
    have HC2 : Hid (wr.cell? ⟨g2, P2, none⟩ = some (.int .i64 s1.par)) := hn2.id
    have HC1 : Hid (wr.cell? ⟨g1, P1, none⟩ = some (.int .i64 x)) := c0
    have e0 : (s1.par != 0) = true := by simpa using h0
    clear hg1 hrt hn1 h0 hst2 ht2 hn2 hc2
    go_wp2_with fail
    refine CS2.out.mono ?_
    rintro e u3 ⟨rfl, rfl⟩
    clear CS2
    go_wp2
    go_roundw
    case rel => exact ⟨g2, P2, s2, s1.par, rfl, HN2.out, HT2.out, HR2.out, trivial⟩
    case measure =>
     simp only [HC2.out, HC1.out]
     exact HL.out
end
end Go.Proofs.YtkjempffidndeaaGreatDoor
