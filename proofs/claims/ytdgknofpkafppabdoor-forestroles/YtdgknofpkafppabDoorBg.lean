/- The program's forest: Commit. Written by forest/mk_pft.py. -/
import Derived.Test.YtdgknofpkafppabDoorBf
import Derived.Test.YtdgknofpkafppabDoorBd
import Derived.Test.YtdgknofpkafppabDoorBa
import Derived.Test.YtdgknofpkafppabDoorChecked
import Derived.BigQuiet
namespace Go.Proofs.YtdgknofpkafppabDoor
open Go Go.RowKit

variable {base B : Nat} {w u w' : World} {p m : Nat} {L L' : Po} {F : Fo} {id : Int} {es : List Addr} {e : Ps}
theorem Fok.cacs {mm : Nat} (h : Fok mm F) (id : Int) : Fok mm (upd F id cacS) := ⟨h.inv.cacs id, h.nof.turn _ _ fun _ _ hs => hs.cacs, h.szf.turn (Nat.le_refl mm) _ _ fun _ hs => hs.cacs, h.bof.turn _ _ fun _ hs => hs.cacs⟩
theorem Fok.apls {mm : Nat} (h : Fok mm F) (id : Int) : Fok mm (upd F id aplS) := ⟨h.inv.apls id, h.nof.turn _ _ fun _ _ hs => hs.apls, h.szf.turn (Nat.le_refl mm) _ _ fun _ hs => hs.apls, h.bof.turn _ _ fun _ hs => hs.apls⟩
theorem ic_mcs (l : List Int) : mcs (sg l) = ic l := by
  induction l with
  | nil => rfl
  | cons z l ih =>
    rw [sg, List.map_cons, mcs_cons]
    rw [sg] at ih
    rw [ih]
    rfl
/-- A block that is none of the forest's was written. -/
theorem PfR.ext (h : PfR base w p m L F w' L') (h0 : Pf base w p m L) {b : Nat} (hb : w.heap.size ≤ b) (hn : b ∉ wbs L') (ho : Ofr L' b) {w2 : World} (hk : Kp [b] w' w2) : PfR base w p m L F w2 L' := by
  obtain ⟨l1, l2⟩ := h0.lt
  refine ⟨h.pf.kept hk (by simp only [List.mem_cons, List.not_mem_nil, or_false]; omega) (by simp only [List.mem_cons, List.not_mem_nil, or_false]; omega) (fun x e he => ⟨fun c hc hm => ?_, fun z hz c hc => ?_⟩), h.ab, h.kp.trans hk (fun c hc hlt => by simp only [List.mem_cons, List.not_mem_nil, or_false] at hc; omega), h.new, h.ofr⟩
  · simp only [List.mem_cons, List.not_mem_nil, or_false] at hm
    rw [hm] at hc
    exact hn ((mem_wbs h.pf.nd).2 ⟨x, e, he, hc⟩)
  · simp only [List.mem_cons, List.not_mem_nil, or_false] at hc
    rw [hc]
    exact ho x e he z hz
/-- A block that is new is none of the forest's. -/
theorem Pf.newb (h : Pf base w p m L) {b : Nat} (hb : w.heap.size ≤ b) : b ∉ wbs L ∧ Ofr L b := by
  refine ⟨fun hm => ?_, fun x e he z hz => (h.rows x e he).ros hz hb⟩
  obtain ⟨x, e, he, hb2⟩ := (mem_wbs h.nd).1 hm
  have := (h.wlt he hb2).2
  omega

/-- What Commit leaves. -/
def CoR (base : Nat) (w : World) (p m : Nat) (L : Po) (es : List Addr) (id : Int) (e' : Ending) (w' : World) : Prop := ∃ L' vl, e' = .returned (.tuple #[vl, erv es (hasE (pab L) id)]) ∧ w'.ownsRow w.heap.size 3 1 vl (comF 41 (pab L) id).2.length (ic (comF 41 (pab L) id).2) ∧ PfR base w p m L (comF 41 (pab L) id).1 w' L'

set_option maxRecDepth 100000 in
set_option maxHeartbeats 4000000 in
theorem fcommit_any {mm : Nat} (hm : mm ≤ 900) (hE : Fe w es) (hB : 16 ≤ base) (h : Pf base w p m L) (hF : Fok mm (pab L)) (id : Int) (hi : Bt id) :
    Calls Tryd.prog 24 #[.pointer (some ⟨p, 0, none⟩), .int .i64 id] w (CoR base w p m L es id) := by
  have HF := hid (ffind_any hE h id hi)
  cases hq : gt L id with
  | none =>
    have hs : gt (pab L) id = none := by rw [gt_pab, hq]; rfl
    have HS : Hid (pto L id = none ∧ hasE (pab L) id = 5) := ⟨by rw [pto, hq]; rfl, by rw [hasE, hs]⟩
    have HX : Hid (∀ q, CoR base w p m L es id (.returned (.tuple #[.slice none 0 0, erv es 5])) (w.drewN q)) := fun q => ⟨L, .slice none 0 0, by rw [HS.out.2], by rw [comF_eq, hs]; exact World.ownsRow_nil _ _ _ _, (PfR.refl h (below_drewN (Below.refl _ _) q)).as (by rw [comF_eq, hs])⟩
    rw [HS.out.1, HS.out.2] at HF
    clear hq h hE HS hF hs
    go_enter Tryd.func24, Tryd.ntmps24
    go_wp2_with fail
    refine HF.out.mono ?_
    rintro e' w1 ⟨rfl, q1, rfl⟩
    rw [ptv_none]
    have HY := hid (HX.out q1)
    rw [erv_succ] at HY ⊢
    go_wp2
    go_ret2
    exact HY.out
  | some e =>
    have hs : gt (pab L) id = some e.s.f := by rw [gt_pab, hq]; rfl
    have HS : Hid (pto L id = some e.g ∧ hasE (pab L) id = 0) := ⟨by rw [pto, hq]; rfl, by rw [hasE, hs]⟩
    rw [HS.out.1, HS.out.2] at HF
    have HC : Hid (∀ W : World, Below w.heap.size w W → (W.cell? ⟨e.g, 0, none⟩ = some (.bool e.s.pe.at_) ∧ W.cell? ⟨e.g, 1, none⟩ = some (.int .i64 e.s.pe.buf) ∧ W.cell? ⟨e.g, 2, none⟩ = some (.slice e.s.pe.dm.a e.s.pe.dm.n e.s.pe.dm.c) ∧ W.cell? ⟨e.g, 3, none⟩ = some (.slice e.s.pe.fr.a e.s.pe.fr.n e.s.pe.fr.c) ∧ W.cell? ⟨e.g, 4, none⟩ = some (.bool e.s.pe.inp) ∧ W.cell? ⟨e.g, 5, none⟩ = some (.bool e.s.pe.all) ∧ W.cell? ⟨e.g, 6, none⟩ = some (.slice e.s.pe.rg.a e.s.pe.rg.n e.s.pe.rg.c) ∧ W.cell? ⟨e.g, 7, none⟩ = some (.bool e.s.pe.ord) ∧ W.cell? ⟨e.g, 8, none⟩ = some (.slice e.s.pe.od.a e.s.pe.od.n e.s.pe.od.c) ∧ W.cell? ⟨e.g, 9, none⟩ = some (.slice e.s.pe.pl.a e.s.pe.pl.n e.s.pe.pl.c)) ∧ (W.cell? ⟨e.g, 10, none⟩ = some (.bool e.s.ca.at_) ∧ W.cell? ⟨e.g, 11, none⟩ = some (.int .i64 e.s.ca.buf) ∧ W.cell? ⟨e.g, 12, none⟩ = some (.slice e.s.ca.dm.a e.s.ca.dm.n e.s.ca.dm.c) ∧ W.cell? ⟨e.g, 13, none⟩ = some (.slice e.s.ca.fr.a e.s.ca.fr.n e.s.ca.fr.c) ∧ W.cell? ⟨e.g, 14, none⟩ = some (.bool e.s.ca.inp) ∧ W.cell? ⟨e.g, 15, none⟩ = some (.bool e.s.ca.all) ∧ W.cell? ⟨e.g, 16, none⟩ = some (.slice e.s.ca.rg.a e.s.ca.rg.n e.s.ca.rg.c) ∧ W.cell? ⟨e.g, 17, none⟩ = some (.bool e.s.ca.ord) ∧ W.cell? ⟨e.g, 18, none⟩ = some (.slice e.s.ca.od.a e.s.ca.od.n e.s.ca.od.c) ∧ W.cell? ⟨e.g, 19, none⟩ = some (.slice e.s.ca.pl.a e.s.ca.pl.n e.s.ca.pl.c)) ∧ e.g < W.heap.size ∧ (∀ j, W.frozen? ⟨e.g, j, none⟩ = false) ∧ e.s.ca.Ok W ∧ e.s.pe.Ok W) := fun W hW => by
      have h1 := h.on hW
      exact ⟨(h1.cells hq).1, (h1.cells hq).2.1, (h1.wlt hq (mem_wb.2 (.inl rfl))).2, h1.fz hq, (h1.rows id e hq).ok.ca, (h1.rows id e hq).ok.pe⟩
    have HFIN : Hid (∀ (W W1 : World) (r : Sx), Below w.heap.size w W → Below W.heap.size W W1 → r.Ok W1 → r.New W.heap.size → r.q = mrg e.s.ca.q e.s.pe.q → W1.ownsRow W.heap.size 55 3 (.slice r.pl.a r.pl.n r.pl.c) r.pl.n (mcs r.pl.l) → r.Plf → PfR base w p m L (upd (pab L) id cacS) (sto (sto W1 e.g 10 r) e.g 0 sx0) (st L id ⟨e.g, { e.s with ca := r, pe := sx0 }⟩)) := fun W W1 r hb hb1 ok nw hq' ho hp => h.com1 hq hb hb1 ok nw hq' ho hp
    obtain ⟨l1, l2, l3⟩ := hF.len hm h hq
    have HL1 := hid l1
    have HL2 := hid l2
    have HG1 : Hid (∀ s', gt (st L id ⟨e.g, s'⟩) id = some ⟨e.g, s'⟩) := fun s' => by rw [gt_st, if_pos rfl, hq]; rfl
    have HFK := hid hF
    have HP := hid h
    have HE := hid hE
    have HS2 := hid hs
    have HS1 := hid HS.out.2
    clear hq h hE HS hF hs l1 l2 l3
    go_enter Tryd.func24, Tryd.ntmps24
    go_wp2_with fail
    refine HF.out.mono ?_
    rintro e' w1 ⟨rfl, q1, hw1⟩
    have HB1 : Hid (Below w.heap.size w w1) := by rw [Hid, hw1]; exact below_drewN (Below.refl _ _) q1
    clear hw1 HF
    rw [ptv_some, erv0]
    go_upto_region 4 with fail
    go_cut [] (fun wc => ∃ r, PfR base w p m L (upd (pab L) id cacS) wc (st L id ⟨e.g, { e.s with ca := r, pe := sx0 }⟩))
    case first =>
      refine wp_region_gate_drew (g := 14) (S := RowKit.Below w.heap.size w) (by kernel_rfl) ?hh (fun hHeld => ?_)
      case hh => exact (Below.on HB1.out (Below.refl _ _).drew)
      generalize w1.drew = W0 at hHeld ⊢
      try dsimp only at hHeld
      refine wpAnyG_take (i := 0) (v := ?_) rfl (by kernel_rfl) (by kernel_rfl) (by kernel_rfl) (by kernel_rfl) (fun _ _ _ h => h) (Or.inl ⟨by kernel_rfl, ?hy0⟩) (by assumption) ?_
      case hy0 => (intro wI hSw; (try dsimp only at hSw); obtain ⟨⟨a0, a1, a2, a3, a4, a5, a6, a7, a8, a9⟩, ⟨b0, b1, b2, b3, b4, b5, b6, b7, b8, b9⟩, t1, t2, -, -⟩ := HC.out _ hSw; go_simp; try with_reducible rfl)
      try simp only [Act.put, List.getElem_toArray, List.getElem_cons_zero, List.setIfInBounds_toArray, List.set_cons_zero, List.set_cons_succ]
      refine wpAnyG_takeFree (i := 1) (v := ?_) rfl (by kernel_rfl) (by kernel_rfl) (by kernel_rfl) (by kernel_rfl) (fun _ _ _ h => h) (Or.inl ⟨by kernel_rfl, ?hy1⟩) (by assumption) ?_
      case hy1 => (intro wI _; go_simp; try with_reducible rfl)
      try simp only [Act.put, List.getElem_toArray, List.getElem_cons_zero, List.getElem_cons_succ, List.setIfInBounds_toArray, List.set_cons_zero, List.set_cons_succ]
      refine wpAnyG_take (i := 2) (v := ?_) rfl (by kernel_rfl) (by kernel_rfl) (by kernel_rfl) (by kernel_rfl) (fun _ _ _ h => h) (Or.inl ⟨by kernel_rfl, ?hy2⟩) (by assumption) ?_
      case hy2 => (intro wI hSw; (try dsimp only at hSw); obtain ⟨⟨a0, a1, a2, a3, a4, a5, a6, a7, a8, a9⟩, ⟨b0, b1, b2, b3, b4, b5, b6, b7, b8, b9⟩, t1, t2, -, -⟩ := HC.out _ hSw; go_simp; try with_reducible rfl)
      try simp only [Act.put, List.getElem_toArray, List.getElem_cons_zero, List.getElem_cons_succ, List.setIfInBounds_toArray, List.set_cons_zero, List.set_cons_succ]
      refine wpAnyG_take (i := 3) (v := ?_) rfl (by kernel_rfl) (by kernel_rfl) (by kernel_rfl) (by kernel_rfl) (fun _ _ _ h => h) (Or.inl ⟨by kernel_rfl, ?hy3⟩) (by assumption) ?_
      case hy3 => (intro wI hSw; (try dsimp only at hSw); obtain ⟨⟨a0, a1, a2, a3, a4, a5, a6, a7, a8, a9⟩, ⟨b0, b1, b2, b3, b4, b5, b6, b7, b8, b9⟩, t1, t2, -, -⟩ := HC.out _ hSw; go_simp; try with_reducible rfl)
      try simp only [Act.put, List.getElem_toArray, List.getElem_cons_zero, List.getElem_cons_succ, List.setIfInBounds_toArray, List.set_cons_zero, List.set_cons_succ]
      refine wpAnyG_take (i := 4) (v := ?_) rfl (by kernel_rfl) (by kernel_rfl) (by kernel_rfl) (by kernel_rfl) (fun _ _ _ h => h) (Or.inl ⟨by kernel_rfl, ?hy4⟩) (by assumption) ?_
      case hy4 => (intro wI hSw; (try dsimp only at hSw); obtain ⟨⟨a0, a1, a2, a3, a4, a5, a6, a7, a8, a9⟩, ⟨b0, b1, b2, b3, b4, b5, b6, b7, b8, b9⟩, t1, t2, -, -⟩ := HC.out _ hSw; go_simp; try with_reducible rfl)
      try simp only [Act.put, List.getElem_toArray, List.getElem_cons_zero, List.getElem_cons_succ, List.setIfInBounds_toArray, List.set_cons_zero, List.set_cons_succ]
      refine wpAnyG_take (i := 5) (v := ?_) rfl (by kernel_rfl) (by kernel_rfl) (by kernel_rfl) (by kernel_rfl) (fun _ _ _ h => h) (Or.inl ⟨by kernel_rfl, ?hy5⟩) (by assumption) ?_
      case hy5 => (intro wI hSw; (try dsimp only at hSw); obtain ⟨⟨a0, a1, a2, a3, a4, a5, a6, a7, a8, a9⟩, ⟨b0, b1, b2, b3, b4, b5, b6, b7, b8, b9⟩, t1, t2, -, -⟩ := HC.out _ hSw; go_simp; try with_reducible rfl)
      try simp only [Act.put, List.getElem_toArray, List.getElem_cons_zero, List.getElem_cons_succ, List.setIfInBounds_toArray, List.set_cons_zero, List.set_cons_succ]
      refine wpAnyG_take (i := 6) (v := ?_) rfl (by kernel_rfl) (by kernel_rfl) (by kernel_rfl) (by kernel_rfl) (fun _ _ _ h => h) (Or.inl ⟨by kernel_rfl, ?hy6⟩) (by assumption) ?_
      case hy6 => (intro wI hSw; (try dsimp only at hSw); obtain ⟨⟨a0, a1, a2, a3, a4, a5, a6, a7, a8, a9⟩, ⟨b0, b1, b2, b3, b4, b5, b6, b7, b8, b9⟩, t1, t2, -, -⟩ := HC.out _ hSw; go_simp; try with_reducible rfl)
      try simp only [Act.put, List.getElem_toArray, List.getElem_cons_zero, List.getElem_cons_succ, List.setIfInBounds_toArray, List.set_cons_zero, List.set_cons_succ]
      refine wpAnyG_take (i := 7) (v := ?_) rfl (by kernel_rfl) (by kernel_rfl) (by kernel_rfl) (by kernel_rfl) (fun _ _ _ h => h) (Or.inl ⟨by kernel_rfl, ?hy7⟩) (by assumption) ?_
      case hy7 => (intro wI hSw; (try dsimp only at hSw); obtain ⟨⟨a0, a1, a2, a3, a4, a5, a6, a7, a8, a9⟩, ⟨b0, b1, b2, b3, b4, b5, b6, b7, b8, b9⟩, t1, t2, -, -⟩ := HC.out _ hSw; go_simp; try with_reducible rfl)
      try simp only [Act.put, List.getElem_toArray, List.getElem_cons_zero, List.getElem_cons_succ, List.setIfInBounds_toArray, List.set_cons_zero, List.set_cons_succ]
      refine wpAnyG_take (i := 8) (v := ?_) rfl (by kernel_rfl) (by kernel_rfl) (by kernel_rfl) (by kernel_rfl) (fun _ _ _ h => h) (Or.inl ⟨by kernel_rfl, ?hy8⟩) (by assumption) ?_
      case hy8 => (intro wI hSw; (try dsimp only at hSw); obtain ⟨⟨a0, a1, a2, a3, a4, a5, a6, a7, a8, a9⟩, ⟨b0, b1, b2, b3, b4, b5, b6, b7, b8, b9⟩, t1, t2, -, -⟩ := HC.out _ hSw; go_simp; try with_reducible rfl)
      try simp only [Act.put, List.getElem_toArray, List.getElem_cons_zero, List.getElem_cons_succ, List.setIfInBounds_toArray, List.set_cons_zero, List.set_cons_succ]
      refine wpAnyG_take (i := 9) (v := ?_) rfl (by kernel_rfl) (by kernel_rfl) (by kernel_rfl) (by kernel_rfl) (fun _ _ _ h => h) (Or.inl ⟨by kernel_rfl, ?hy9⟩) (by assumption) ?_
      case hy9 => (intro wI hSw; (try dsimp only at hSw); obtain ⟨⟨a0, a1, a2, a3, a4, a5, a6, a7, a8, a9⟩, ⟨b0, b1, b2, b3, b4, b5, b6, b7, b8, b9⟩, t1, t2, -, -⟩ := HC.out _ hSw; go_simp; try with_reducible rfl)
      try simp only [Act.put, List.getElem_toArray, List.getElem_cons_zero, List.getElem_cons_succ, List.setIfInBounds_toArray, List.set_cons_zero, List.set_cons_succ]
      refine wpAnyG_takeFree (i := 11) (v := ?_) rfl (by kernel_rfl) (by kernel_rfl) (by kernel_rfl) (by kernel_rfl) (fun _ _ _ h => h) (Or.inl ⟨by kernel_rfl, ?hy11⟩) (by assumption) ?_
      case hy11 => (intro wI _; go_simp; try with_reducible rfl)
      try simp only [Act.put, List.getElem_toArray, List.getElem_cons_zero, List.getElem_cons_succ, List.setIfInBounds_toArray, List.set_cons_zero, List.set_cons_succ]
      refine wpAnyG_ready (rs := [10]) (by kernel_rfl) (by simp) ?_
      refine AllReadyG.cons rfl (fun K hK => ?_) AllReadyG.nil
      go_simp
      go_wp2_with fail
      refine (mergeo_any e.s.ca e.s.pe _ (HC.out _ hHeld).2.2.2.2.1 (HC.out _ hHeld).2.2.2.2.2 HL2.out HL1.out).mono ?_
      rintro e' W10 ⟨r, rfl, okr, nwr, hqr, hbr, owr, plr⟩
      have HX := hid (HFIN.out _ _ r hHeld hbr okr nwr hqr owr plr)
      have hH2 := Below.on hHeld hbr
      refine hK.out _ _ hH2 (fun _ => ?_)
      clear hK K hHeld okr nwr hqr owr plr hbr
      have hHeld := hH2
      clear hH2
      try simp only [Act.put, List.getElem_toArray, List.getElem_cons_zero, List.getElem_cons_succ, List.setIfInBounds_toArray, List.set_cons_zero, List.set_cons_succ]
      refine wpAnyG_take (i := 12) (v := ?_) rfl (by kernel_rfl) (by kernel_rfl) (by kernel_rfl) (by kernel_rfl) (fun _ _ _ h => h) (Or.inl ⟨by kernel_rfl, ?hy12⟩) (by assumption) ?_
      case hy12 => (intro wI hSw; (try dsimp only at hSw); obtain ⟨⟨a0, a1, a2, a3, a4, a5, a6, a7, a8, a9⟩, ⟨b0, b1, b2, b3, b4, b5, b6, b7, b8, b9⟩, t1, t2, -, -⟩ := HC.out _ hSw; go_simp; try with_reducible rfl)
      try simp only [Act.put, List.getElem_toArray, List.getElem_cons_zero, List.getElem_cons_succ, List.setIfInBounds_toArray, List.set_cons_zero, List.set_cons_succ]
      refine wpAnyG_take (i := 13) (v := ?_) rfl (by kernel_rfl) (by kernel_rfl) (by kernel_rfl) (by kernel_rfl) (fun _ _ _ h => h) (Or.inl ⟨by kernel_rfl, ?hy13⟩) (by assumption) ?_
      case hy13 => (intro wI hSw; (try dsimp only at hSw); obtain ⟨⟨a0, a1, a2, a3, a4, a5, a6, a7, a8, a9⟩, ⟨b0, b1, b2, b3, b4, b5, b6, b7, b8, b9⟩, t1, t2, -, -⟩ := HC.out _ hSw; go_simp; try with_reducible rfl)
      try simp only [Act.put, List.getElem_toArray, List.getElem_cons_zero, List.getElem_cons_succ, List.setIfInBounds_toArray, List.set_cons_zero, List.set_cons_succ]
      have hG := hHeld
      clear hHeld
      have hHeld : True := trivial
      refine wpAnyG_gateOp rfl (by kernel_rfl) (fun K hK => ?_)
      obtain ⟨⟨a0, a1, a2, a3, a4, a5, a6, a7, a8, a9⟩, ⟨b0, b1, b2, b3, b4, b5, b6, b7, b8, b9⟩, t1, t2, -, -⟩ := HC.out _ hG
      clear hG
      go_simp
      refine hK.out _ _ trivial (fun _ => ?_)
      clear hK K
      try simp only [Act.put, List.getElem_toArray, List.getElem_cons_zero, List.getElem_cons_succ, List.setIfInBounds_toArray, List.set_cons_zero, List.set_cons_succ]
      refine wpAnyH_take (i := 15) (v := ?_) rfl (by kernel_rfl) (by kernel_rfl) (by kernel_rfl) (fun _ _ _ h => h) (Or.inl ⟨by kernel_rfl, ?hy15⟩) (by assumption) ?_
      case hy15 => (intro wI hSw; (try dsimp only at hSw); go_simp; try with_reducible rfl)
      try simp only [Act.put, List.getElem_toArray, List.getElem_cons_zero, List.getElem_cons_succ, List.setIfInBounds_toArray, List.set_cons_zero, List.set_cons_succ]
      refine wpAnyH_take (i := 16) (v := ?_) rfl (by kernel_rfl) (by kernel_rfl) (by kernel_rfl) (fun _ _ _ h => h) (Or.inl ⟨by kernel_rfl, ?hy16⟩) (by assumption) ?_
      case hy16 => (intro wI hSw; (try dsimp only at hSw); go_simp; try with_reducible rfl)
      try simp only [Act.put, List.getElem_toArray, List.getElem_cons_zero, List.getElem_cons_succ, List.setIfInBounds_toArray, List.set_cons_zero, List.set_cons_succ]
      refine wpAnyH_ready (rs := [17]) (by kernel_rfl) (by simp) ?_
      refine AllReadyH.cons rfl (fun K hK => ?_) AllReadyH.nil
      go_simp
      refine hK.out _ _ trivial (fun _ => ?_)
      clear hK K
      try simp only [Act.put, List.getElem_toArray, List.getElem_cons_zero, List.getElem_cons_succ, List.setIfInBounds_toArray, List.set_cons_zero, List.set_cons_succ]
      refine wpAnyH_done (by kernel_rfl) ?_ _
      go_wp2_with fail
      go_meet
      exact ⟨r, HX.out⟩
    case rest =>
      obtain ⟨r, hR⟩ := hcut
      have hF1 : Fok mm (pab (st L id ⟨e.g, { e.s with ca := r, pe := sx0 }⟩)) := by rw [hR.ab]; exact HFK.out.cacs id
      have hsy : sy (pab (st L id ⟨e.g, { e.s with ca := r, pe := sx0 }⟩)) id = sy (pab L) id := by rw [hR.ab]; exact ((tre_upd _ id cacS (fun _ => ⟨rfl, rfl⟩)).sy id).symm
      have hE1 := HE.out.kb (hR.bel HP.out) hB
      have CSY := hid (fsynced_one hE1 hR.pf hF1.nok id hi)
      rw [hsy] at CSY
      clear HC HFIN HL1 HL2
      cases hsv : sy (pab L) id
      · rw [hsv] at CSY
        have HCOM : Hid (comF 41 (pab L) id = ((kds 41 (upd (pab L) id comS) id []).1, [id] ++ (kds 41 (upd (pab L) id comS) id []).2)) := by
          rw [Hid, comF_eq, HS2.out]
          simp only [hsv]
          exact kds_acc 41 _ id [id] []
        obtain ⟨-, l2, l3⟩ := hF1.len hm hR.pf (HG1.out _)
        have HAP : Hid (∀ W, Below wc.heap.size wc W → Calls Tryd.prog 35 #[.pointer (some ⟨e.g, 0, none⟩)] W fun e' w' => e' = .returned undef ∧ ∃ L2 e2, PfR base w p m L (upd (pab L) id comS) w' L2 ∧ gt L2 id = some e2 ∧ e2.g = e.g) := fun W hW => by
          refine (fapply_any (hR.pf.on hW) (HG1.out _) l2 l3).mono fun e' w' ⟨h1, r2, _, hR2⟩ => ⟨h1, _, ⟨e.g, { { e.s with ca := r, pe := sx0 } with no := r2, ca := sx0 }⟩, (hR.trans ((PfR.refl hR.pf hW).trans hR2)).as ?_, ?_, rfl⟩
          · rw [hR.ab, upd_upd]
            rfl
          · rw [gt_st, if_pos rfl, HG1.out]
            rfl
        have HAB : Hid (∀ (W : World) L2 e2, PfR base w p m L (upd (pab L) id comS) W L2 → gt L2 id = some e2 → Calls Tryd.prog 36 #[.pointer (some ⟨p, 0, none⟩), .pointer (some ⟨e2.g, 0, none⟩)] (W.alloc (.cells #[.int .i64 id] 3)) fun e' w' => ∃ vl, e' = .returned vl ∧ (∃ a c, vl = .slice a (kds 41 (upd (pab L) id comS) id []).2.length c) ∧ Src Tryd.prog 1 40 vl (kds 41 (upd (pab L) id comS) id []).2.length (ic (kds 41 (upd (pab L) id comS) id []).2) w' ∧ (kds 41 (upd (pab L) id comS) id []).2.length ≤ 1000 ∧ w'.ownsRow w.heap.size 3 1 (.slice (some ⟨W.heap.size, 0, none⟩) 1 1) 1 (ic [id]) ∧ w.heap.size ≤ w'.heap.size ∧ ∀ w2 : World, w'.grownBy w2 (some W.heap.size) → ∃ L3, PfR base w p m L (kds 41 (upd (pab L) id comS) id []).1 w2 L3) := fun W L2 e2 hR2 hg2 => by
          have hb := bel_new W (.cells #[.int .i64 id] 3)
          have hF2 : Fok mm (pab L2) := by rw [hR2.ab, show upd (pab L) id comS = upd (upd (pab L) id cacS) id aplS by rw [upd_upd]; rfl]; exact (HFK.out.cacs id).apls id
          have h2 := hR2.pf.on hb
          have hE2 := (HE.out.kb (hR2.bel HP.out) hB).on hb
          have hab2 := hR2.ab
          refine (fapplybelow_any hm hE2 hB h2 hF2 hg2).mono fun e' w' ⟨L3, vl, h1, ho, hR3⟩ => ?_
          rw [hab2] at ho hR3
          obtain ⟨hn1, hn2⟩ := hR2.pf.newb (Nat.le_refl W.heap.size)
          have hws := hR2.kp.size
          have hkp := hR3.kp.size
          rw [size_new] at hkp
          have hbb : W.heap.size ∉ m :: wbs L2 := fun hm' => by
            rcases List.mem_cons.1 hm' with h3 | h3
            · have := hR2.pf.lt.2
              omega
            · exact hn1 h3
          have hB1 : Bk w' W.heap.size 3 #[.int .i64 id] := (bk_new W #[.int .i64 id] 3).kp hR3.kp hbb
          obtain ⟨l, hl1, hl2, hl3, hl4, hl5⟩ := own_sl (l := sg (kds 41 (upd (pab L) id comS) id []).2) (by rw [ic_mcs]; exact ho) (by rw [sg_length]) (sg_size _)
          have hsrc := hl4.src (P := Tryd.prog) (t := 40) (e := 3) Tryd.underlying40
          rw [hl3, ic_mcs, hl2] at hsrc
          have hlen : (kds 41 (upd (pab L) id comS) id []).2.length ≤ 1000 := by
            have hk := kds_length 41 (upd (pab L) id comS) id [] (by rw [← hab2]; exact hF2.inv) (by rw [← hab2]; exact hF2.nof) (by rw [← hab2, gt_pab, hg2]; rfl)
            have hd := dsc_le (upd (pab L) id comS) id
            have hl := hF2.inv.len
            rw [hab2] at hl
            simp only [List.length_nil] at hk
            omega
          refine ⟨vl, h1, ⟨l.a, l.c, by rw [hl1, Sl.v, hl2]⟩, by rw [hl1, Sl.v, hl2]; exact hsrc, hlen, ⟨by simp [ic], .inr ⟨W.heap.size, 1, #[.int .i64 id], rfl, hws, hB1.obj, by omega, by simp [maxLen], by simp, by simp [ic]⟩⟩, by omega, fun w2 hg => ⟨L3, ?_⟩⟩
          have hRR := hR2.trans ((PfR.refl hR2.pf hb).trans hR3)
          refine hRR.ext HP.out hws (fun hm' => ?_) (hR3.ofr _ (by rw [size_new]; omega) hn2) (kp_of_grown hg)
          rcases hR3.new _ hm' with h3 | h3
          · exact hn1 h3
          · rw [size_new] at h3
            omega
        obtain ⟨i0, hi', hz0, hz1, hz2⟩ := infoMP infoM1
        clear hR hF1 hsy hE1 l2 l3 hsv
        go_wp2_with fail
        refine CSY.out.mono ?_
        rintro e' w5 ⟨rfl, q5, hw5⟩
        have HB5 : Hid (Below wc.heap.size wc w5) := by rw [Hid, hw5]; exact below_drewN (Below.refl _ _) q5
        clear hw5 CSY
        go_wp2_with fail
        refine (HAP.out _ HB5.out).mono ?_
        rintro e' w6 ⟨rfl, L2, e2, hR2, hg2, hge⟩
        have HAB2 := hid (HAB.out w6 L2 e2 hR2 hg2)
        rw [hge] at HAB2
        clear HAP HAB hR2 hg2 hge HB5
        go_wp2_with fail
        refine HAB2.out.mono ?_
        rintro e' w7 ⟨vl, rfl, ⟨va, vc, rfl⟩, hsrc, hln, how, hsz, hfin⟩
        have HSRC := hid hsrc
        have HOW := hid how
        have HFN := hid hfin
        have HEND : Hid (∀ (v8 : Value) (w8 : World), w8.ownsRow w.heap.size 3 1 v8 (1 + (kds 41 (upd (pab L) id comS) id []).2.length) (ic [id] ++ ic (kds 41 (upd (pab L) id comS) id []).2) → w7.grownBy w8 (some w6.heap.size) → CoR base w p m L es id (.returned (.tuple #[v8, .nilIface])) w8) := fun v8 w8 o8 g8 => by
          obtain ⟨L3, hR3⟩ := HFN.out w8 g8
          refine ⟨L3, v8, by rw [HS1.out]; rfl, ?_, hR3.as (by rw [HCOM.out])⟩
          rw [HCOM.out]
          show w8.ownsRow _ _ _ v8 ([id] ++ _).length (ic ([id] ++ _))
          rw [ic_append, List.length_append]
          exact o8
        clear hsrc how hfin HAB2 HFN HCOM
        generalize (kds 41 (upd (pab L) id comS) id []).2.length = kl at *
        go_wp2_with (at_builtin; refine wpList_append_own_at _ rfl (.tmp 39) (.tmp 42) 40 40 rfl w.heap.size 3 i0 (.int .i64 0) 1 8 Tryd.underlying40 hi' hz0 hz1 hz2 rfl _ _ _ rfl HOW.out _ _ _ rfl HSRC.out (by simp only [maxLen]; omega) (fitsM (by omega) (by decide)) hsz ?_; intro v8 w8 o8 g8 a8; have HX := hid (HEND.out v8 w8 o8 g8); clear o8 g8 a8)
        go_ret2
        exact HX.out
      · rw [hsv] at CSY
        have HX : Hid (∀ q, CoR base w p m L es id (.returned (.tuple #[.slice none 0 0, .nilIface])) (wc.drewN q)) := fun q => ⟨_, .slice none 0 0, by rw [HS1.out]; rfl, by rw [comF_eq, HS2.out]; simp only [hsv]; exact World.ownsRow_nil _ _ _ _, (hR.trans (PfR.refl hR.pf (below_drewN (Below.refl _ _) q))).as (by rw [comF_eq, HS2.out]; simp only [hsv]; exact hR.ab)⟩
        clear hR hF1 hsy hE1 hsv
        go_wp2_with fail
        refine CSY.out.mono ?_
        rintro e' w5 ⟨rfl, q5, rfl⟩
        have HY := hid (HX.out q5)
        go_wp2
        go_ret2
        exact HY.out
end Go.Proofs.YtdgknofpkafppabDoor

/- Forests, reckoned out: the same functions, such that a closed forest's answers can be told. No program. -/
namespace Go.Proofs.YtdgknofpkafppabDoor
open Go Go.RowKit

def ancB : Nat → Fo → Int → Int → Bool
  | 0, _, _, _ => false
  | n + 1, F, x, id => match gt F x with
    | none => false
    | some s => x == id || ancB n F s.par id
def syB : Nat → Fo → Int → Bool
  | 0, _, _ => false
  | n + 1, F, x => match gt F x with
    | none => false
    | some s => s.par != 0 && (s.syn || syB n F s.par)
theorem ancB_eq {F : Fo} (hA : Acy F) : ∀ (n : Nat) (x id : Int), dpt F x ≤ n → ancB n F x id = anc F x id
  | 0, x, id, h => by
    cases hg : gt F x with
    | none => rw [anc_none hg]; rfl
    | some s =>
      have := dpt_lt hA hg
      omega
  | n + 1, x, id, h => by
    rw [ancB]
    cases hg : gt F x with
    | none => rw [anc_none hg]
    | some s =>
      have := dpt_lt hA hg
      rw [anc_some hg]
      dsimp only
      rw [ancB_eq hA n s.par id (by omega)]
theorem syB_eq {F : Fo} (hA : Acy F) : ∀ (n : Nat) (x : Int), dpt F x ≤ n → syB n F x = sy F x
  | 0, x, h => by
    cases hg : gt F x with
    | none => rw [sy_none hg]; rfl
    | some s =>
      have := dpt_lt hA hg
      omega
  | n + 1, x, h => by
    rw [syB]
    cases hg : gt F x with
    | none => rw [sy_none hg]
    | some s =>
      have := dpt_lt hA hg
      rw [sy_some hg]
      dsimp only
      rw [syB_eq hA n s.par (by omega)]
theorem Inv.anc {F : Fo} (h : Inv F) (x id : Int) : Proofs.YtdgknofpkafppabDoor.anc F x id = ancB 40 F x id := (ancB_eq h.acy 40 x id (Nat.le_trans (dpt_le F x) h.len)).symm
theorem Inv.sy {F : Fo} (h : Inv F) (x : Int) : Proofs.YtdgknofpkafppabDoor.sy F x = syB 40 F x := (syB_eq h.acy 40 x (Nat.le_trans (dpt_le F x) h.len)).symm
def subEB (F : Fo) (id p : Int) : Nat := match gt F id, gt F p with
  | some s, some _ => if s.par ≠ 0 then 10 else if ancB 40 F p id then 11 else 0
  | _, _ => 5
def subFB (F : Fo) (id p : Int) : Fo := if subEB F id p = 0 then upd (upd F id fun s => { s with par := p, syn := true }) p (fun q => plcS [id, 0, 0] (ordS (sg (dr id (un1 (lat q)) ++ [id])) q)) else F
theorem Inv.subE {F : Fo} (h : Inv F) (id p : Int) : Proofs.YtdgknofpkafppabDoor.subE F id p = subEB F id p := by
  unfold Proofs.YtdgknofpkafppabDoor.subE subEB
  rw [h.anc]
  rfl
theorem Inv.subF {F : Fo} (h : Inv F) (id p : Int) : Proofs.YtdgknofpkafppabDoor.subF F id p = subFB F id p := by
  unfold Proofs.YtdgknofpkafppabDoor.subF subFB
  rw [h.subE]
def kstB (kd : Fo → Int → List Int → Fo × List Int) (r : Fo × List Int) (k : Int) : Fo × List Int := match gt r.1 k with
  | none => r
  | some c => if k = 0 ∨ syB 40 r.1 k = false then r else if non c.ca then kd r.1 k r.2 else kd (upd r.1 k aplS) k (r.2 ++ [k])
def kdsB : Nat → Fo → Int → List Int → Fo × List Int
  | 0, F, _, l => (F, l)
  | n + 1, F, x, l => match gt F x with
    | none => (F, l)
    | some s => (un1 s.no.od).foldl (kstB (kdsB n)) (F, l)
theorem kdsB_eq : ∀ (n : Nat) (F : Fo) (x : Int) (l : List Int), Inv F → kds n F x l = kdsB n F x l
  | 0, _, _, _, _ => rfl
  | n + 1, F, x, l, h => by
    rw [kds_succ, kdsB]
    cases hgx : gt F x with
    | none => rfl
    | some s =>
      dsimp only
      have hst : ∀ (r : Fo × List Int) (k : Int), Inv r.1 → kst n r k = kstB (kdsB n) r k ∧ Inv (kst n r k).1 := fun r k hr => by
        unfold kst kstB
        rw [hr.sy]
        cases hgk : gt r.1 k with
        | none => exact ⟨rfl, hr⟩
        | some c =>
          dsimp only
          split
          · exact ⟨rfl, hr⟩
          · split
            · exact ⟨kdsB_eq n _ _ _ hr, (kds_inv n _ _ _ hr).1⟩
            · exact ⟨kdsB_eq n _ _ _ (hr.apls k), (kds_inv n _ _ _ (hr.apls k)).1⟩
      have hf : ∀ (L : List Int) (r : Fo × List Int), Inv r.1 → L.foldl (kst n) r = L.foldl (kstB (kdsB n)) r := fun L => by
        induction L with
        | nil => exact fun r _ => rfl
        | cons k L ih =>
          intro r hr
          obtain ⟨h1, h2⟩ := hst r k hr
          rw [List.foldl_cons, List.foldl_cons, ← h1]
          exact ih _ h2
      exact hf _ (F, l) h
def comB (F : Fo) (id : Int) : Fo × List Int := match gt F id with
  | none => (F, [])
  | some _ => if syB 40 F id then (upd F id cacS, []) else kdsB 41 (upd F id comS) id [id]
theorem Inv.comF {F : Fo} (h : Inv F) (id : Int) : Proofs.YtdgknofpkafppabDoor.comF 41 F id = comB F id := by
  rw [comF_eq, comB, h.sy]
  cases hgx : gt F id with
  | none => rfl
  | some s =>
    dsimp only
    split
    · rfl
    · exact kdsB_eq 41 _ _ _ (h.coms id)

/-- awake's forest. -/
def awF : Fo := upd (subFB (addF (addF [] 1) 2) 2 1) 2 (frmS 9)
theorem aw_facts : addE [] 1 = 0 ∧ addE (addF [] 1) 2 = 0 ∧ subEB (addF (addF [] 1) 2) 2 1 = 0 ∧ hasE (subFB (addF (addF [] 1) 2) 2 1) 2 = 0 ∧ hasE awF 2 = 0 ∧ (comB awF 2).2 = [] ∧ hasE (comB awF 2).1 1 = 0 ∧ (comB (comB awF 2).1 1).2 = [1, 2] := by decide
end Go.Proofs.YtdgknofpkafppabDoor

/- The program's forest, call by call. Written by forest/mk_pga.py. -/
namespace Go.Proofs.YtdgknofpkafppabDoor
open Go Go.RowKit

/-- A forest of the law's own, behind p: F, after mm calls. -/
structure Pg (es : List Addr) (w0 w : World) (p : Nat) (mm : Nat) (F : Fo) : Prop where
  ex : ∃ m L, Pf w0.heap.size w p m L ∧ pab L = F
  ok : Fok mm F
  fe : Fe w es
  ng : 16 ≤ w0.heap.size
  bel : RowKit.Below w0.heap.size w0 w
variable {es : List Addr} {w0 w w' : World} {p mm : Nat} {F : Fo}
theorem Pg.on (h : Pg es w0 w p mm F) (hb : Below w.heap.size w w') : Pg es w0 w' p mm F := by
  obtain ⟨m, L, h1, h2⟩ := h.ex
  exact ⟨⟨m, L, h1.on hb, h2⟩, h.ok, h.fe.on hb, h.ng, Below.on h.bel hb⟩
theorem Pg.mono (h : Pg es w0 w p mm F) {n : Nat} (hn : mm ≤ n) : Pg es w0 w p n F := ⟨h.ex, h.ok.mono hn, h.fe, h.ng, h.bel⟩
theorem Pg.as (h : Pg es w0 w p mm F) {F' : Fo} (e : F = F') : Pg es w0 w p mm F' := e ▸ h
theorem Below.tr {B : Nat} {a b c : World} (h : RowKit.Below B a b) (h' : RowKit.Below B b c) : RowKit.Below B a c := h.trans h'
/-- A row of numbers of one's own, as a slice. -/
theorem own_rz0 {w : World} {B : Nat} {v : Value} {l : List Int} (h : w.ownsRow B 3 1 v l.length (ic l)) : ∃ a c, v = .slice a l.length c ∧ Rz w a l.length c l := by
  obtain ⟨s, h1, h2, h3, h4, _⟩ := own_sl (l := sg l) (by rw [ic_mcs]; exact h) (by rw [sg_length]) (sg_size l)
  refine ⟨s.a, s.c, by rw [h1, Sl.v, h2], ?_⟩
  have := rz_of_rdm h4
  rw [h2, h3, un1_sg] at this
  exact this
/-- What a call leaves. -/
theorem Pg.pfr {m : Nat} {L L' : Po} {G : Fo} {n : Nat} (h : Pg es w0 w p mm F) (hP : Pf w0.heap.size w p m L) (hR : PfR w0.heap.size w p m L G w' L') (hok : Fok n G) : Pg es w0 w' p n G := by
  have hb := hR.bel hP
  exact ⟨⟨m, L', hR.pf, hR.ab⟩, hok, h.fe.kb hb h.ng, h.ng, h.bel.trans hb⟩
theorem pg_new (w0 w : World) (hb : Below w0.heap.size w0 w) (hE : Fe w es) (hn : 16 ≤ w0.heap.size) : Calls Tryd.prog 5 #[] w fun e w' => ∃ p, e = .returned (.pointer (some ⟨p, 0, none⟩)) ∧ Pg es w0 w' p 0 [] ∧ Below w.heap.size w w' :=
  (fnew_any w).mono fun _ _ ⟨h1, h2, h3⟩ => ⟨_, h1, ⟨⟨_, _, h3 _ hb.size, rfl⟩, fok_nil, hE.on h2, hn, Below.on hb h2⟩, h2⟩
theorem Pg.add (h : Pg es w0 w p mm F) (_hm : mm ≤ 900) (id : Int) (hi : Bt id) : Calls Tryd.prog 6 #[.pointer (some ⟨p, 0, none⟩), .int .i64 id] w fun e w' => e = .returned (erv es (addE F id)) ∧ Pg es w0 w' p (mm + 1) (addF F id) := by
  obtain ⟨m, L, hP, rfl⟩ := h.ex
  exact (fadd_any h.fe hP id hi (by rw [← pab_length L]; exact h.ok.inv.len)).mono fun _ _ ⟨h1, L', hR⟩ => ⟨h1, h.pfr hP hR (h.ok.add hi)⟩
theorem Pg.sub (h : Pg es w0 w p mm F) (hm : mm ≤ 900) (id y : Int) (hi : Bt id) (hj : Bt y) : Calls Tryd.prog 7 #[.pointer (some ⟨p, 0, none⟩), .int .i64 id, .int .i64 y] w fun e w' => e = .returned (erv es (subEB F id y)) ∧ Pg es w0 w' p (mm + 1) (subFB F id y) := by
  obtain ⟨m, L, hP, rfl⟩ := h.ex
  have q := fsub_any h.fe h.ng hP h.ok.nok (h.ok.few hm hP) id y hi hj
  rw [h.ok.inv.subE, h.ok.inv.subF] at q
  exact q.mono fun _ _ ⟨h1, L', hR⟩ => ⟨h1, h.pfr hP hR (by rw [← h.ok.inv.subF]; exact h.ok.sub id y)⟩
theorem Pg.frm (h : Pg es w0 w p mm F) (hm : mm ≤ 900) (id b : Int) (hi : Bt id) : Calls Tryd.prog 23 #[.pointer (some ⟨p, 0, none⟩), .int .i64 id, .int .i64 b] w fun e w' => e = .returned (erv es (hasE F id)) ∧ Pg es w0 w' p (mm + 1) (upd F id (frmS b)) := by
  obtain ⟨m, L, hP, rfl⟩ := h.ex
  exact (fframe_any h.fe hP id hi (fun e he => by have := (h.ok.len hm hP he).1.2.1; omega) b).mono fun _ _ ⟨h1, L', hR⟩ => ⟨h1, h.pfr hP hR (h.ok.frm id b)⟩
theorem Pg.pos (h : Pg es w0 w p mm F) (hm : mm ≤ 900) (id x y : Int) (hi : Bt id) : Calls Tryd.prog 9 #[.pointer (some ⟨p, 0, none⟩), .int .i64 id, .int .i64 x, .int .i64 y] w fun e w' => e = .returned (erv es (unsE F id)) ∧ Pg es w0 w' p (mm + 1) (posF F id x y) := by
  obtain ⟨m, L, hP, rfl⟩ := h.ex
  exact (fpos_any h.fe hP h.ok.nok (h.ok.few hm hP) id x y hi).mono fun _ _ ⟨h1, L', hR⟩ => ⟨h1, h.pfr hP hR (h.ok.posn id x y)⟩
theorem Pg.com (h : Pg es w0 w p mm F) (hm : mm ≤ 900) (id : Int) (hi : Bt id) : Calls Tryd.prog 24 #[.pointer (some ⟨p, 0, none⟩), .int .i64 id] w fun e w' => ∃ a c, e = .returned (.tuple #[.slice a (comB F id).2.length c, erv es (hasE F id)]) ∧ Rz w' a (comB F id).2.length c (comB F id).2 ∧ Pg es w0 w' p (mm + 1) (comB F id).1 := by
  obtain ⟨m, L, hP, rfl⟩ := h.ex
  refine (fcommit_any hm h.fe h.ng hP h.ok id hi).mono fun e w' ⟨L', vl, h1, h2, hR⟩ => ?_
  rw [h.ok.inv.comF] at h2 hR
  obtain ⟨a, c, rfl, hr⟩ := own_rz0 h2
  exact ⟨a, c, h1, hr, h.pfr hP hR (by rw [← h.ok.inv.comF]; exact h.ok.com 41 id)⟩
theorem Pg.has (h : Pg es w0 w p mm F) (id : Int) (hi : Bt id) : Calls Tryd.prog 12 #[.pointer (some ⟨p, 0, none⟩), .int .i64 id] w fun e w' => e = .returned (.bool (gt F id).isSome) ∧ w' = w := by
  obtain ⟨m, L, hP, rfl⟩ := h.ex
  refine (fhas_any hP id hi).mono fun e w' ⟨h1, h2⟩ => ⟨?_, h2⟩
  rw [h1, gt_pab]
  cases gt L id <;> rfl
theorem Pg.par (h : Pg es w0 w p mm F) (id : Int) (hi : Bt id) : Calls Tryd.prog 10 #[.pointer (some ⟨p, 0, none⟩), .int .i64 id] w fun e w' => e = .returned (.int .i64 (parF F id)) ∧ Below w.heap.size w w' := by
  obtain ⟨m, L, hP, rfl⟩ := h.ex
  exact (fparent_any h.fe hP id hi).mono fun e w' ⟨h1, q, h2⟩ => ⟨h1, by rw [h2]; exact below_drewN (Below.refl _ _) q⟩
theorem Pg.syd (h : Pg es w0 w p mm F) (id : Int) (hi : Bt id) : Calls Tryd.prog 34 #[.pointer (some ⟨p, 0, none⟩), .int .i64 id] w fun e w' => e = .returned (.bool (syB 40 F id)) ∧ Below w.heap.size w w' := by
  obtain ⟨m, L, hP, rfl⟩ := h.ex
  exact (fsynced_one h.fe hP h.ok.nok id hi).mono fun e w' ⟨h1, q, h2⟩ => ⟨by rw [h1, h.ok.inv.sy], by rw [h2]; exact below_drewN (Below.refl _ _) q⟩
end Go.Proofs.YtdgknofpkafppabDoor

/- awake of law 17: the document's example. -/
namespace Go.Proofs.YtdgknofpkafppabDoor
open Go Go.RowKit

theorem bt1 : Bt 1 := ⟨by decide, by decide⟩
theorem bt2 : Bt 2 := ⟨by decide, by decide⟩
set_option maxRecDepth 100000 in
set_option maxHeartbeats 1000000 in
theorem fawake_any {es : List Addr} (w : World) (hE : Fe w es) (hn : 16 ≤ w.heap.size) : Calls Tryd.prog 11 #[] w fun e w' => e = .returned (.bool true) ∧ Below w.heap.size w w' := by
  obtain ⟨a1, a2, a3, a4, a5, a6, a7, a8⟩ := aw_facts
  have A1 := hid a1
  have A2 := hid a2
  have A3 := hid a3
  have A4 := hid a4
  have A5 := hid a5
  have A6 := hid a6
  have A7 := hid a7
  have A8 := hid a8
  have CN := hid (pg_new w w (Below.refl _ _) hE hn)
  clear a1 a2 a3 a4 a5 a6 a7 a8 hE hn
  go_enter Tryd.func11, Tryd.ntmps11
  go_wp2_with fail
  refine CN.out.mono ?_
  rintro e w1 ⟨p, rfl, hp1, -⟩
  have C1 := hid (hp1.add (by omega) 1 bt1)
  rw [A1.out] at C1
  clear hp1 CN
  go_wp2_with fail
  refine C1.out.mono ?_
  rintro e w2 ⟨rfl, hp2⟩
  have C2 := hid (hp2.add (by omega) 2 bt2)
  rw [A2.out] at C2
  rw [erv0]
  clear hp2 C1
  go_wp2_with fail
  refine C2.out.mono ?_
  rintro e w3 ⟨rfl, hp3⟩
  have C3 := hid (hp3.sub (by omega) 2 1 bt2 bt1)
  rw [A3.out] at C3
  rw [erv0]
  clear hp3 C2
  go_wp2_with fail
  refine C3.out.mono ?_
  rintro e w4 ⟨rfl, hp4⟩
  have C4 := hid (hp4.frm (by omega) 2 9 bt2)
  rw [A4.out] at C4
  rw [erv0]
  clear hp4 C3
  go_wp2_with fail
  refine C4.out.mono ?_
  rintro e w5 ⟨rfl, hp5⟩
  have hp5' : Pg es w w5 p (0 + 1 + 1 + 1 + 1) awF := hp5
  have C5 := hid (hp5'.com (by omega) 2 bt2)
  rw [A5.out, A6.out] at C5
  rw [erv0]
  clear hp5 hp5' C4
  go_wp2_with fail
  refine C5.out.mono ?_
  rintro e w6 ⟨va, vc, rfl, hr6, hp6⟩
  have C6 := hid (hp6.com (by omega) 1 bt1)
  rw [A7.out, A8.out] at C6
  rw [erv0]
  clear hp6 C5 hr6
  go_wp2_with fail
  refine C6.out.mono ?_
  rintro e w7 ⟨vb, vd, rfl, hr7, hp7⟩
  have hb7 := bel_new w7 (.cells #[.int .i64 1, .int .i64 2] 3)
  have C7 := hid (samez_any vb _ 2 vd 2 2 [1, 2] [1, 2] _ (hr7.on hb7) (rz_lit (l := [1, 2]) (heap_alloc_new w7 _) (by decide)))
  have HB := hid (Below.on hp7.bel hb7)
  rw [erv0]
  clear hp7 hr7 hb7 C6
  go_wp2_with fail
  refine C7.out.mono ?_
  rintro e w8 ⟨rfl, q8, rfl⟩
  rw [zeq_same]
  go_wp2
  go_ret
  exact ⟨rfl, below_drewN HB.out q8⟩
end Go.Proofs.YtdgknofpkafppabDoor

/- The contract of tableaulaw00.Kind: of nil 0; of the error that the k-th listed variable holds, k + 1; it turns nothing that was there. -/
namespace Go.Proofs.YtdgknofpkafppabDoor
open Go Go.RowKit

theorem len16 {α : Type} {l : List α} (h : l.length = 16) : ∃ x0 x1 x2 x3 x4 x5 x6 x7 x8 x9 x10 x11 x12 x13 x14 x15, l = [x0, x1, x2, x3, x4, x5, x6, x7, x8, x9, x10, x11, x12, x13, x14, x15] := by
  match l, h with
  | [x0, x1, x2, x3, x4, x5, x6, x7, x8, x9, x10, x11, x12, x13, x14, x15], _ => exact ⟨_, _, _, _, _, _, _, _, _, _, _, _, _, _, _, _, rfl⟩

theorem nodup_at {l : List Addr} (h : l.Nodup) {i j : Nat} {a : Addr} (hi : l[i]? = some a) (hj : l[j]? = some a) : i = j := by
  induction l generalizing i j with
  | nil => simp at hi
  | cons x l ih =>
    rw [List.nodup_cons] at h
    cases i with
    | zero =>
      cases j with
      | zero => rfl
      | succ j =>
        simp only [List.getElem?_cons_zero, List.getElem?_cons_succ, Option.some.injEq] at hi hj
        subst hi
        exact absurd (List.mem_of_getElem? hj) h.1
    | succ i =>
      cases j with
      | zero =>
        simp only [List.getElem?_cons_zero, List.getElem?_cons_succ, Option.some.injEq] at hi hj
        subst hj
        exact absurd (List.mem_of_getElem? hi) h.1
      | succ j =>
        simp only [List.getElem?_cons_succ] at hi hj
        rw [ih h.2 hi hj]

theorem ret_int' {k : IntKind} {a b : Int} (h : a = b) : Ending.returned (.int k a) = .returned (.int k b) := by rw [h]

set_option maxRecDepth 100000 in
theorem kind_any (w : World) (es : List Addr) (h : Errs w gerrs es) (k : Nat) (a : Addr) (ha : es[k]? = some a) :
    Calls Tryd.prog 8 #[.iface 102 (.pointer (some a))] w fun e w' => e = .returned (.int .i64 (k + 1 : Nat)) ∧ Below w.heap.size w w' := by
  obtain ⟨x0, x1, x2, x3, x4, x5, x6, x7, x8, x9, x10, x11, x12, x13, x14, x15, rfl⟩ := len16 h.len
  have c0 := (h.each 0 _ _ rfl rfl).1
  have c1 := (h.each 1 _ _ rfl rfl).1
  have c2 := (h.each 2 _ _ rfl rfl).1
  have c3 := (h.each 3 _ _ rfl rfl).1
  have c4 := (h.each 4 _ _ rfl rfl).1
  have c5 := (h.each 5 _ _ rfl rfl).1
  have c6 := (h.each 6 _ _ rfl rfl).1
  have c7 := (h.each 7 _ _ rfl rfl).1
  have c8 := (h.each 8 _ _ rfl rfl).1
  have c9 := (h.each 9 _ _ rfl rfl).1
  have c10 := (h.each 10 _ _ rfl rfl).1
  have c11 := (h.each 11 _ _ rfl rfl).1
  have c12 := (h.each 12 _ _ rfl rfl).1
  have c13 := (h.each 13 _ _ rfl rfl).1
  have c14 := (h.each 14 _ _ rfl rfl).1
  have c15 := (h.each 15 _ _ rfl rfl).1
  have hk : k < 16 := by
    rcases Nat.lt_or_ge k 16 with h' | h'
    · exact h'
    · rw [List.getElem?_eq_none (by simpa using h')] at ha; cases ha
  have hbel : Below w.heap.size w (w.alloc (.cells #[.iface 102 (.pointer (some x0)), .iface 102 (.pointer (some x1)), .iface 102 (.pointer (some x2)), .iface 102 (.pointer (some x3)), .iface 102 (.pointer (some x4)), .iface 102 (.pointer (some x5)), .iface 102 (.pointer (some x6)), .iface 102 (.pointer (some x7)), .iface 102 (.pointer (some x8)), .iface 102 (.pointer (some x9)), .iface 102 (.pointer (some x10)), .iface 102 (.pointer (some x11)), .iface 102 (.pointer (some x12)), .iface 102 (.pointer (some x13)), .iface 102 (.pointer (some x14)), .iface 102 (.pointer (some x15))] 56)) := (Below.refl _ _).alloc (Nat.le_refl _) _
  have HB : Hid (Below w.heap.size w (w.alloc (.cells #[.iface 102 (.pointer (some x0)), .iface 102 (.pointer (some x1)), .iface 102 (.pointer (some x2)), .iface 102 (.pointer (some x3)), .iface 102 (.pointer (some x4)), .iface 102 (.pointer (some x5)), .iface 102 (.pointer (some x6)), .iface 102 (.pointer (some x7)), .iface 102 (.pointer (some x8)), .iface 102 (.pointer (some x9)), .iface 102 (.pointer (some x10)), .iface 102 (.pointer (some x11)), .iface 102 (.pointer (some x12)), .iface 102 (.pointer (some x13)), .iface 102 (.pointer (some x14)), .iface 102 (.pointer (some x15))] 56))) := hbel
  have HL : Hid (∀ (j : Nat) (x : Addr), [x0, x1, x2, x3, x4, x5, x6, x7, x8, x9, x10, x11, x12, x13, x14, x15][j]? = some x → (w.alloc (.cells #[.iface 102 (.pointer (some x0)), .iface 102 (.pointer (some x1)), .iface 102 (.pointer (some x2)), .iface 102 (.pointer (some x3)), .iface 102 (.pointer (some x4)), .iface 102 (.pointer (some x5)), .iface 102 (.pointer (some x6)), .iface 102 (.pointer (some x7)), .iface 102 (.pointer (some x8)), .iface 102 (.pointer (some x9)), .iface 102 (.pointer (some x10)), .iface 102 (.pointer (some x11)), .iface 102 (.pointer (some x12)), .iface 102 (.pointer (some x13)), .iface 102 (.pointer (some x14)), .iface 102 (.pointer (some x15))] 56)).cell? ⟨w.heap.size, j, none⟩ = some (.iface 102 (.pointer (some x)))) := by
    intro j x hx
    have e : (#[.iface 102 (.pointer (some x0)), .iface 102 (.pointer (some x1)), .iface 102 (.pointer (some x2)), .iface 102 (.pointer (some x3)), .iface 102 (.pointer (some x4)), .iface 102 (.pointer (some x5)), .iface 102 (.pointer (some x6)), .iface 102 (.pointer (some x7)), .iface 102 (.pointer (some x8)), .iface 102 (.pointer (some x9)), .iface 102 (.pointer (some x10)), .iface 102 (.pointer (some x11)), .iface 102 (.pointer (some x12)), .iface 102 (.pointer (some x13)), .iface 102 (.pointer (some x14)), .iface 102 (.pointer (some x15))] : Array Value)[j]? = some (.iface 102 (.pointer (some x))) := by
      have : ([x0, x1, x2, x3, x4, x5, x6, x7, x8, x9, x10, x11, x12, x13, x14, x15].map fun y => Value.iface 102 (.pointer (some y)))[j]? = some (.iface 102 (.pointer (some x))) := by rw [List.getElem?_map, hx]; rfl
      simpa using this
    rw [World.cell?_alloc_at _ _ _ _ rfl]
    exact e
  clear hbel
  have HE : Hid (Errs w gerrs [x0, x1, x2, x3, x4, x5, x6, x7, x8, x9, x10, x11, x12, x13, x14, x15]) := h
  have HA : Hid ([x0, x1, x2, x3, x4, x5, x6, x7, x8, x9, x10, x11, x12, x13, x14, x15][k]? = some a) := ha
  clear h ha
  go_enter Tryd.func8, Tryd.ntmps8
  go_wp2
  clear c0 c1 c2 c3 c4 c5 c6 c7 c8 c9 c10 c11 c12 c13 c14 c15
  generalize hW : w.alloc (.cells #[.iface 102 (.pointer (some x0)), .iface 102 (.pointer (some x1)), .iface 102 (.pointer (some x2)), .iface 102 (.pointer (some x3)), .iface 102 (.pointer (some x4)), .iface 102 (.pointer (some x5)), .iface 102 (.pointer (some x6)), .iface 102 (.pointer (some x7)), .iface 102 (.pointer (some x8)), .iface 102 (.pointer (some x9)), .iface 102 (.pointer (some x10)), .iface 102 (.pointer (some x11)), .iface 102 (.pointer (some x12)), .iface 102 (.pointer (some x13)), .iface 102 (.pointer (some x14)), .iface 102 (.pointer (some x15))] 56) = W at *
  clear hW
  go_loop [4] (fun i => ∃ j : Nat, j ≤ k ∧ i = .int .i64 j) (fun i => 16 - (RowKit.intOf i).toNat)
  case atStart => exact ⟨0, Nat.zero_le _, rfl⟩
  case round =>
    obtain ⟨j, hj, rfl⟩ := hrel
    obtain ⟨x, hx⟩ : ∃ x, [x0, x1, x2, x3, x4, x5, x6, x7, x8, x9, x10, x11, x12, x13, x14, x15][j]? = some x := ⟨_, List.getElem?_eq_getElem (by simp; omega)⟩
    have hl := HL.out j x hx
    have HX : Hid ([x0, x1, x2, x3, x4, x5, x6, x7, x8, x9, x10, x11, x12, x13, x14, x15][j]? = some x) := hx
    clear hx
    have hj16 : (j : Int) < 16 := by omega
    by_cases he : j = k
    · subst he
      obtain rfl : x = a := Option.some.inj (HX.out.symm.trans HA.out)
      go_wp2_with (go_at_call 20; refine (is_same x _).mono ?_; rintro e w' ⟨rfl, rfl⟩)
      go_ret
      exact ⟨ret_int' (by omega), HB.out⟩
    · have hne : a ≠ x := by
        intro hax
        subst hax
        have e1 := HA.out
        have e2 := HX.out
        exact he (nodup_at HE.out.nodup e2 e1)
      obtain ⟨_, ca, ta, ha⟩ := (HE.out.each k _ a (List.getElem?_eq_getElem (by show _ < 16; omega)) HA.out).below HB.out
      obtain ⟨_, cb, tb, hb⟩ := (HE.out.each j _ x (List.getElem?_eq_getElem (by show _ < 16; omega)) HX.out).below HB.out
      have HC : Hid (∀ _ : Unit, Calls Tryd.prog 20 #[.iface 102 (.pointer (some a)), .iface 102 (.pointer (some x))] W fun e w' => e = .returned (.bool false) ∧ w' = W) := fun _ => is_other a x ca cb ta tb W hne ha hb
      clear ha hb hne
      go_wp2_with (go_at_call 20; refine (HC.out ()).mono ?_; rintro e w' ⟨rfl, rfl⟩)
      go_round
      case rel => exact ⟨j + 1, by omega, by go_num⟩
      case measure => simp [RowKit.intOf]; omega

set_option maxRecDepth 100000 in
theorem kind_nil (w : World) (es : List Addr) (h : Errs w gerrs es) :
    Calls Tryd.prog 8 #[.nilIface] w fun e w' => e = .returned (.int .i64 0) ∧ Below w.heap.size w w' := by
  obtain ⟨x0, x1, x2, x3, x4, x5, x6, x7, x8, x9, x10, x11, x12, x13, x14, x15, rfl⟩ := len16 h.len
  have c0 := (h.each 0 _ _ rfl rfl).1
  have c1 := (h.each 1 _ _ rfl rfl).1
  have c2 := (h.each 2 _ _ rfl rfl).1
  have c3 := (h.each 3 _ _ rfl rfl).1
  have c4 := (h.each 4 _ _ rfl rfl).1
  have c5 := (h.each 5 _ _ rfl rfl).1
  have c6 := (h.each 6 _ _ rfl rfl).1
  have c7 := (h.each 7 _ _ rfl rfl).1
  have c8 := (h.each 8 _ _ rfl rfl).1
  have c9 := (h.each 9 _ _ rfl rfl).1
  have c10 := (h.each 10 _ _ rfl rfl).1
  have c11 := (h.each 11 _ _ rfl rfl).1
  have c12 := (h.each 12 _ _ rfl rfl).1
  have c13 := (h.each 13 _ _ rfl rfl).1
  have c14 := (h.each 14 _ _ rfl rfl).1
  have c15 := (h.each 15 _ _ rfl rfl).1
  go_enter Tryd.func8, Tryd.ntmps8
  go_wp2
  go_ret
  exact ⟨rfl, (Below.refl _ _).alloc (Nat.le_refl _) _⟩

theorem kind_erv (w : World) (es : List Addr) (h : Errs w gerrs es) (k : Nat) (hk : k ≤ 16) :
    Calls Tryd.prog 8 #[erv es k] w fun e w' => e = .returned (.int .i64 k) ∧ Below w.heap.size w w' := by
  cases k with
  | zero => exact kind_nil w es h
  | succ k =>
    have hl : k < es.length := by rw [h.len]; exact hk
    refine kind_any w es h k _ ?_
    rw [List.getD, List.getElem?_eq_getElem hl]
    rfl
end Go.Proofs.YtdgknofpkafppabDoor

/- Place: a number as a place. -/
namespace Go.Proofs.YtdgknofpkafppabDoor
open Go Go.RowKit

/-- A number as a place. -/
def plc (v : Int) (n : Nat) : Nat := (v % n).toNat

theorem plc_lt (v : Int) (n : Nat) (h : 0 < n) : plc v n < n := by
  have h1 := Int.emod_nonneg v (b := (n : Int)) (by omega)
  have h2 := Int.emod_lt_of_pos v (b := (n : Int)) (by omega)
  unfold plc
  omega

theorem ret_plc {k : IntKind} {a b : Int} (h : a = b) : Ending.returned (.int k a) = .returned (.int k b) := by rw [h]

theorem place_any (v : Int) (n : Nat) (_hv : -9223372036854775808 ≤ v ∧ v ≤ 9223372036854775807) (hn : 0 < n) (hn2 : n ≤ 1152921504606846976) (w : World) :
    Calls Tryd.prog 4 #[.int .i64 v, .int .i64 n] w fun e w' => e = .returned (.int .i64 (plc v n : Nat)) ∧ w' = w := by
  have h0 : ¬ ((n : Int) = 0) := by omega
  go_enter Tryd.func4, Tryd.ntmps4
  have hb := Int.emod_nonneg v (b := (n : Int)) (by omega)
  have hb2 := Int.emod_lt_of_pos v (b := (n : Int)) (by omega)
  have HP : Hid (((plc v n : Nat) : Int) = v % n) := by simp only [Hid]; unfold plc; omega
  have HT : Hid (v.tmod n = if 0 ≤ v ∨ (n : Int) ∣ v then v % n else v % n - n) := by
    simp only [Hid]
    rw [Int.tmod_eq_emod]
    split <;> simp
  have ht : -9223372036854775808 ≤ v.tmod n + n ∧ v.tmod n + n ≤ 9223372036854775807 := by rw [HT.out]; split <;> omega
  clear hb hb2
  go_wp2
  all_goals
    go_ret
    refine ⟨ret_plc ?_, rfl⟩
    have hb := Int.emod_nonneg v (b := (n : Int)) (by omega)
    have hb2 := Int.emod_lt_of_pos v (b := (n : Int)) (by omega)
    have h1 := HT.out
    rw [HP.out]
    split at h1 <;> omega
end Go.Proofs.YtdgknofpkafppabDoor

/- The sixteen errors over a forest: Kind of what a call answers. -/
namespace Go.Proofs.YtdgknofpkafppabDoor
open Go Go.RowKit

theorem ng_of {w : World} {es : List Addr} (h : Errs w gerrs es) : 16 ≤ w.heap.size := by
  have hl : es.length = 16 := h.len
  have each : ∀ i g, gerrs[i]? = some g → i < 16 → g < w.heap.size := fun i g hg hi => World.block_lt_of_cell? _ _ (h.each i g _ hg (List.getElem?_eq_getElem (by omega))).1
  have h0 := each 0 _ rfl (by decide)
  have h1 := each 1 _ rfl (by decide)
  have h2 := each 2 _ rfl (by decide)
  have h3 := each 3 _ rfl (by decide)
  have h4 := each 4 _ rfl (by decide)
  have h5 := each 5 _ rfl (by decide)
  have h6 := each 6 _ rfl (by decide)
  have h7 := each 7 _ rfl (by decide)
  have h8 := each 8 _ rfl (by decide)
  have h9 := each 9 _ rfl (by decide)
  have h10 := each 10 _ rfl (by decide)
  have h11 := each 11 _ rfl (by decide)
  have h12 := each 12 _ rfl (by decide)
  have h13 := each 13 _ rfl (by decide)
  have h14 := each 14 _ rfl (by decide)
  have h15 := each 15 _ rfl (by decide)
  omega
theorem kind_of {w : World} {es : List Addr} (hE : Errs w gerrs es) {k : Nat} (hk : k ≤ 16) : Calls Tryd.prog 8 #[erv es k] w fun e w' => e = .returned (.int .i64 (k : Nat)) ∧ Below w.heap.size w w' := by
  have hl : es.length = 16 := hE.len
  cases k with
  | zero => exact kind_nil w es hE
  | succ k =>
    have he : es[k]? = some (es.getD k ⟨0, 0, none⟩) := by rw [List.getD, List.getElem?_eq_getElem (by omega)]; rfl
    exact kind_any w es hE k _ he
end Go.Proofs.YtdgknofpkafppabDoor
