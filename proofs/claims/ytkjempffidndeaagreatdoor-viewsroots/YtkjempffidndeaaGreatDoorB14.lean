/- Lemmas that the proof leans on. -/
import Derived.Test.YtkjempffidndeaaGreatDoorB13
import Derived.Deep.DeepHandedRow
namespace Go.Proofs.YtkjempffidndeaaGreatDoor
open Go Go.RowKit
set_option maxRecDepth 100000
set_option maxHeartbeats 1000000
section
structure Pl (w : World) (p : Addr) : Prop where
 c : w.cell? ⟨10, 0, none⟩ = some (.iface 183 (.pointer (some p)))
theorem Pl.on {w u : World} {p : Addr} (h : Pl w p) (hb : Below w.heap.size w u) : Pl u p := ⟨by rw [hb.cell (World.block_lt_of_cell? w _ h.c)]; exact h.c⟩
theorem Pl.drewN {w : World} {p : Addr} (h : Pl w p) (q : Nat) : Pl (w.drewN q) p := h.on (below_drewN (Below.refl _ _) q)
def pe (p : Addr) : Bool → Value
 | true => .iface 183 (.pointer (some p))
 | false => .nilIface
theorem isz_nil (a : Addr) (w : World) :
  Calls Tryz.prog 75 #[.nilIface, .iface 183 (.pointer (some a))] w fun e w' => e = .returned (.bool false) ∧ w' = w := by
 have hq := run_eql_iface_nil_left (P := Tryz.prog) w 183 (.pointer (some a)) Tryz.underlying60
 go_enter Tryz.func75, Tryz.ntmps75
 go_wp2
 go_ret
 exact ⟨rfl, rfl⟩
def zxI (k : Int) (l : List Int) : Int := match zx k l with
 | some i => i
 | none => -1
theorem zindex_any (a : Option Addr) (n c : Nat) (l : List Int) (k : Int) (w : World) (h : Rz w a n c l) :
  Calls Tryz.prog 135 #[.slice a n c, .int .i64 k] w fun e w' => e = .returned (.int .i64 (zxI k l)) ∧ w' = w := by
 have hn63 := h.small.1
 have H := hid h
 have HL := hid h.len
 clear h
 go_enter Tryz.func135, Tryz.ntmps135
 go_wp2
 go_loopw [8] (fun i wr => ∃ j : Nat, i = .int .i64 j ∧ j ≤ n ∧ (∀ i y, i < j → l[i]? = some y → y ≠ k) ∧ wr = w) (fun i _ => n - (numOf i).toNat)
 case atStart => exact ⟨0, rfl, by omega, fun i y hi => absurd hi (by omega), rfl⟩
 case round =>
  obtain ⟨j, rfl, hj, hq, rfl⟩ := hrel
  by_cases hgo : j < n
  ·have e1 : decide ((j : Int) < n) = true := decide_eq_true (by omega)
   have e2 : (j : Int) < n := by omega
   obtain ⟨bl, off, x, rfl, _, hx, c0⟩ := H.out.at_ hgo
   have HX := hid hx
   have HQ := hid hq
   clear hx hq
   cases hs : (k == x)
   ·have hne : x ≠ k := fun e => by simp [e] at hs
    have HN : Hid (∀ i y, i < j + 1 → l[i]? = some y → y ≠ k) := fun i y hi hy => by
     rcases Nat.lt_or_ge i j with h' | h'
     ·exact HQ.out i y h' hy
     ·obtain rfl : i = j := by omega
      rw [HX.out] at hy
      cases hy
      exact hne
    clear hne
    go_wp2
    go_roundw
    case rel => exact ⟨j + 1, by go_num, by omega, HN.out, trivial⟩
    case measure => simp [numOf]; omega
   ·have HE : Hid (zxI k l = j) := by
     have hke : x = k := by simpa using (beq_iff_eq.1 hs).symm
     rw [Hid, zxI, zx_drop HQ.out, zx_at HX.out, if_pos hke]
     simp
    go_wp2
    go_ret
    rw [HE.out]
    exact ⟨rfl, rfl⟩
  ·have e1 : decide ((j : Int) < n) = false := decide_eq_false (by omega)
   have HE : Hid (zxI k l = -1) := by
    rw [Hid, zxI, zx_drop hq, List.drop_eq_nil_of_le (by rw [HL.out]; omega)]
    rfl
   clear hq
   go_wp2
   go_ret
   rw [HE.out]
   exact ⟨rfl, rfl⟩
def fstV (p : Addr) (k : Int) (l : List Int) : Value := match zx k l with
 | some i => .tuple #[.int .i64 (i : Nat), pe p false]
 | none => .tuple #[.int .i64 0, pe p true]
theorem fstV_some {p : Addr} {k : Int} {l : List Int} {i : Nat} (h : zx k l = some i) : fstV p k l = .tuple #[.int .i64 (i : Nat), .nilIface] := by rw [fstV, h]; rfl
theorem fstV_none {p : Addr} {k : Int} {l : List Int} (h : zx k l = none) : fstV p k l = .tuple #[.int .i64 0, .iface 183 (.pointer (some p))] := by rw [fstV, h]; rfl
theorem ofirst_any (a : Option Addr) (n c : Nat) (l : List Int) (k : Int) (w : World) (p : Addr) (hp : Pl w p) (h : Rz w a n c l) :
  Calls Tryz.prog 131 #[.slice a n c, .int .i64 k] w fun e w' => e = .returned (fstV p k l) ∧ ∃ q, w' = w.drewN q := by
 have c0 := hp.c
 have HI := hid (zindex_any a n c l k w h)
 clear h hp
 go_enter Tryz.func131, Tryz.ntmps131
 cases hx : zx k l with
 | some i =>
  rw [zxI, hx] at HI
  have HF := hid (fstV_some (p := p) hx)
  have e0 : decide ((0 : Int) ≤ (i : Nat)) = true := decide_eq_true (by omega)
  clear hx
  go_wp2_with fail
  refine HI.out.mono ?_
  rintro e w1 ⟨rfl, rfl⟩
  go_wp2
  go_ret2
  rw [HF.out]
  exact ⟨rfl, 0, rfl⟩
 | none =>
  rw [zxI, hx] at HI
  have HF := hid (fstV_none (p := p) hx)
  clear hx
  go_wp2_with fail
  refine HI.out.mono ?_
  rintro e w1 ⟨rfl, rfl⟩
  go_wp2
  go_quiet (fail)
  go_wp2
  go_ret2
  rw [HF.out]
  exact ⟨rfl, _, rfl⟩
theorem ohas_any (a : Option Addr) (n c : Nat) (l : List Int) (k : Int) (w : World) (p : Addr) (hp : Pl w p) (h : Rz w a n c l) :
  Calls Tryz.prog 132 #[.slice a n c, .int .i64 k] w fun e w' => e = .returned (.bool (zx k l).isSome) ∧ ∃ q, w' = w.drewN q := by
 have HI := hid (ofirst_any a n c l k w p hp h)
 have HC : Hid (∀ q, (w.drewN q).cell? ⟨10, 0, none⟩ = some (.iface 183 (.pointer (some p)))) := fun q => (hp.drewN q).c
 clear h hp
 go_enter Tryz.func132, Tryz.ntmps132
 cases hx : zx k l with
 | some i =>
  rw [fstV_some hx] at HI
  clear hx
  go_wp2_with fail
  refine HI.out.mono ?_
  rintro e w1 ⟨rfl, q, rfl⟩
  have c0 := HC.out q
  go_wp2_with fail
  refine (isz_nil p _).mono ?_
  rintro e w2 ⟨rfl, rfl⟩
  go_wp2
  go_ret
  exact ⟨rfl, _, rfl⟩
 | none =>
  rw [fstV_none hx] at HI
  clear hx
  go_wp2_with fail
  refine HI.out.mono ?_
  rintro e w1 ⟨rfl, q, rfl⟩
  have c0 := HC.out q
  go_wp2_with fail
  refine (is_same p _).mono ?_
  rintro e w2 ⟨rfl, rfl⟩
  go_wp2
  go_ret
  exact ⟨rfl, _, rfl⟩
end
section
structure Fe (w : World) (es : List Addr) : Prop where
 arg : w.cell? ⟨0, 0, none⟩ = some (erv es 1)
 big : w.cell? ⟨2, 0, none⟩ = some (erv es 4)
 obj : w.cell? ⟨1, 0, none⟩ = some (erv es 5)
 rol : w.cell? ⟨9, 0, none⟩ = some (erv es 10)
 plc : w.cell? ⟨10, 0, none⟩ = some (erv es 11)
theorem Fe.on {w w' : World} {es : List Addr} (h : Fe w es) (hb : Below w.heap.size w w') : Fe w' es :=
 ⟨by rw [hb.cell (World.block_lt_of_cell? w _ h.arg)]; exact h.arg, by rw [hb.cell (World.block_lt_of_cell? w _ h.big)]; exact h.big,
  by rw [hb.cell (World.block_lt_of_cell? w _ h.obj)]; exact h.obj, by rw [hb.cell (World.block_lt_of_cell? w _ h.rol)]; exact h.rol, by rw [hb.cell (World.block_lt_of_cell? w _ h.plc)]; exact h.plc⟩
theorem Fe.pl {w : World} {es : List Addr} (h : Fe w es) : Pl w (es.getD 10 ⟨0, 0, none⟩) := ⟨h.plc⟩
theorem fe_of {w : World} {es : List Addr} (h : Errs w gerrs es) : Fe w es := by
 have hl : es.length = 16 := h.len
 have each : ∀ i g, gerrs[i]? = some g → i < 16 → w.cell? ⟨g, 0, none⟩ = some (erv es (i + 1)) := fun i g hg hi => by
  have := (h.each i g _ hg (List.getElem?_eq_getElem (by omega))).1
  rw [this, erv, List.getD, List.getElem?_eq_getElem (by omega)]
  rfl
 exact ⟨each 0 _ rfl (by decide), each 3 _ rfl (by decide), each 4 _ rfl (by decide), each 9 _ rfl (by decide), each 10 _ rfl (by decide)⟩
end
section
variable {base : Nat} {w0 w w' : World} {p m : Nat} {L : Po} {id : Int} {e : Ps}
theorem Pf.bk (h : Pf base w p m L) (he : gt L id = some e) : Bk w e.g 113 (pcs e.s).toArray := ⟨h.srf id e he⟩
theorem PfR.as {L' : Po} {F F' : Fo} (h : PfR base w0 p m L F w L') (e : F = F') : PfR base w0 p m L F' w L' := e ▸ h
theorem Pf.putC (h : Pf base w0 p m L) (he : gt L id = some e) (hb : Below w0.heap.size w0 w) (hk : Kp [e.g] w w') (s' : Sr) (hB : Bk w' e.g 113 (pcs s').toArray) (hown : s'.Own base w) {k : Nat} (hc : Chg w0.heap.size k e.s s') (f : Sf → Sf) (hf : s'.f = f e.s.f) :
  PfR base w0 p m L (upd (pab L) id f) w' (st L id ⟨e.g, s'⟩) :=
 (h.put he (kp_of_below hb []) (by simp) hk hB hown hc).as (pab_upd he f ⟨e.g, s'⟩ hf)
theorem kp1 (w : World) (g j : Nat) (v : Value) : Kp [g] w (w.setCell ⟨g, j, none⟩ v) := (Kp.refl [g] w).set ⟨g, j, none⟩ (by simp) v
theorem Kp.s1 {g : Nat} {w w' : World} (h : Kp [g] w w') (j : Nat) (v : Value) : Kp [g] w (w'.setCell ⟨g, j, none⟩ v) := h.set ⟨g, j, none⟩ (by simp) v
theorem Pf.putPar (h : Pf base w0 p m L) (he : gt L id = some e) (hb : Below w0.heap.size w0 w) (v : Int) :
  PfR base w0 p m L (upd (pab L) id fun s => { s with par := v }) (w.setCell ⟨e.g, 30, none⟩ (.int .i64 v)) (st L id ⟨e.g, { e.s with par := v }⟩) := by
 have ho := ((h.on hb).rows id e he)
 refine h.putC he hb (kp1 _ _ _ _) { e.s with par := v } ?_ ⟨⟨ho.ok.pe, ho.ok.ca, ho.ok.no⟩, ho.dm, ho.fr, ho.pp, ho.cp, ho.np⟩ (k := 5) ⟨.same, .same, .same, .same, .same, .same, .same, .same, .same, .same, .same, .same, .same, .same, .same⟩ _ rfl
 exact ((h.on hb).bk he).set 30 (.int .i64 v)
theorem Pf.putSyn (h : Pf base w0 p m L) (he : gt L id = some e) (hb : Below w0.heap.size w0 w) (v : Bool) :
  PfR base w0 p m L (upd (pab L) id fun s => { s with syn := v }) (w.setCell ⟨e.g, 31, none⟩ (.bool v)) (st L id ⟨e.g, { e.s with syn := v }⟩) := by
 have ho := ((h.on hb).rows id e he)
 refine h.putC he hb (kp1 _ _ _ _) { e.s with syn := v } ?_ ⟨⟨ho.ok.pe, ho.ok.ca, ho.ok.no⟩, ho.dm, ho.fr, ho.pp, ho.cp, ho.np⟩ (k := 5) ⟨.same, .same, .same, .same, .same, .same, .same, .same, .same, .same, .same, .same, .same, .same, .same⟩ _ rfl
 exact ((h.on hb).bk he).set 31 (.bool v)
theorem Pf.putPS (h : Pf base w0 p m L) (he : gt L id = some e) (hb : Below w0.heap.size w0 w) (u : Int) (v : Bool) :
  PfR base w0 p m L (upd (pab L) id fun s => { s with par := u, syn := v }) ((w.setCell ⟨e.g, 30, none⟩ (.int .i64 u)).setCell ⟨e.g, 31, none⟩ (.bool v)) (st L id ⟨e.g, { e.s with par := u, syn := v }⟩) := by
 have ho := ((h.on hb).rows id e he)
 refine h.putC he hb ((kp1 _ _ _ _).s1 _ _) { e.s with par := u, syn := v } ?_ ⟨⟨ho.ok.pe, ho.ok.ca, ho.ok.no⟩, ho.dm, ho.fr, ho.pp, ho.cp, ho.np⟩ (k := 5) ⟨.same, .same, .same, .same, .same, .same, .same, .same, .same, .same, .same, .same, .same, .same, .same⟩ _ rfl
 exact (((h.on hb).bk he).set 30 (.int .i64 u)).set 31 (.bool v)
theorem Pf.putAtt (h : Pf base w0 p m L) (he : gt L id = some e) (hb : Below w0.heap.size w0 w) (v : Int) :
  PfR base w0 p m L (upd (pab L) id (attS v)) ((w.setCell ⟨e.g, 0, none⟩ (.bool true)).setCell ⟨e.g, 1, none⟩ (.int .i64 v)) (st L id ⟨e.g, { e.s with pe := { e.s.pe with at_ := true, buf := v } }⟩) := by
 have ho := ((h.on hb).rows id e he)
 refine h.putC he hb ((kp1 _ _ _ _).s1 _ _) { e.s with pe := { e.s.pe with at_ := true, buf := v } } ?_ ⟨⟨⟨ho.ok.pe.dm, ho.ok.pe.fr, ho.ok.pe.rg, ho.ok.pe.od, ho.ok.pe.pl⟩, ho.ok.ca, ho.ok.no⟩, ho.dm, ho.fr, ho.pp, ho.cp, ho.np⟩ (k := 5) ⟨.same, .same, .same, .same, .same, .same, .same, .same, .same, .same, .same, .same, .same, .same, .same⟩ _ rfl
 exact (((h.on hb).bk he).set 0 (.bool true)).set 1 (.int .i64 v)
theorem Pf.putOd (h : Pf base w0 p m L) (he : gt L id = some e) (hb : Below w0.heap.size w0 w) (l : Sl) (hl : RdM 1 w l.a l.n l.c l.l) (hn : ∀ y, l.a = some y → 0 < l.n → w0.heap.size ≤ y.block) :
  PfR base w0 p m L (upd (pab L) id (ordS l.l)) ((w.setCell ⟨e.g, 7, none⟩ (.bool true)).setCell ⟨e.g, 8, none⟩ l.v) (st L id ⟨e.g, { e.s with pe := { e.s.pe with ord := true, od := l } }⟩) := by
 have ho := ((h.on hb).rows id e he)
 refine h.putC he hb ((kp1 _ _ _ _).s1 _ _) { e.s with pe := { e.s.pe with ord := true, od := l } } ?_ ⟨⟨⟨ho.ok.pe.dm, ho.ok.pe.fr, ho.ok.pe.rg, hl, ho.ok.pe.pl⟩, ho.ok.ca, ho.ok.no⟩, ho.dm, ho.fr, ho.pp, ho.cp, ho.np⟩ (k := 5) ⟨.same, .same, .same, .same, .same, .same, .inr fun y hy h0 => ⟨hn y hy h0, by simp [wk, wos]⟩, .same, .same, .same, .same, .same, .same, .same, .same⟩ _ rfl
 exact (((h.on hb).bk he).set 7 (.bool true)).set 8 l.v
theorem Pf.putPl (h : Pf base w0 p m L) (he : gt L id = some e) (hb : Below w0.heap.size w0 w) (l : Sl) (hl : RdM 3 w l.a l.n l.c l.l) (ho' : w.ownsRow w0.heap.size 46 3 l.v l.n (mcs l.l)) (f : Sf → Sf) (hf : { e.s.f with pe := { e.s.f.pe with pl := l.l } } = f e.s.f) :
  PfR base w0 p m L (upd (pab L) id f) (w.setCell ⟨e.g, 9, none⟩ l.v) (st L id ⟨e.g, { e.s with pe := { e.s.pe with pl := l } }⟩) := by
 have ho := ((h.on hb).rows id e he)
 have hB := (h.lt.1)
 have hlo := h.lop
 refine h.putC he hb (kp1 _ _ _ _) { e.s with pe := { e.s.pe with pl := l } } ?_ ⟨⟨⟨ho.ok.pe.dm, ho.ok.pe.fr, ho.ok.pe.rg, ho.ok.pe.od, hl⟩, ho.ok.ca, ho.ok.no⟩, ho.dm, ho.fr, ownsRow_low ho' (by omega), ho.cp, ho.np⟩ (k := 2) ⟨.same, .same, .fresh fun b hb => .inr (own_blk ho' hb).1, .same, .same, .same, .same, .same, .same, .same, .same, .same, .same, .same, .same⟩ f hf
 exact ((h.on hb).bk he).set 9 l.v
theorem Pf.putDm (h : Pf base w0 p m L) (he : gt L id = some e) (hb : Below w0.heap.size w0 w) {w1 : World} {l : Sl} {r : List Int} (ho' : w1.ownsRow base 54 4 l.v l.n (mcs l.l)) (hl : RdM 4 w1 l.a l.n l.c l.l) (hg : w.grownBy w1 e.s.pe.dm.v.ownBlock) (hn : ∀ b ∈ l.bl, b ∈ e.s.pe.dm.bl ∨ w0.heap.size ≤ b) (hll : l.l = e.s.pe.dm.l ++ [r]) :
  PfR base w0 p m L (upd (pab L) id (dmgS r)) (w1.setCell ⟨e.g, 2, none⟩ l.v) (st L id ⟨e.g, { e.s with pe := { e.s.pe with dm := l } }⟩) := by
 have hk := kp_of_grown hg
 have hm : ∀ b ∈ e.s.pe.dm.bl, b ∈ wb e := fun b hb => mem_wb.2 (.inr ⟨_, by simp [wos], hb⟩)
 have hk0 : Kp e.s.pe.dm.bl w0 w1 := (kp_of_below hb e.s.pe.dm.bl).trans hk (fun b hb _ => hb)
 obtain ⟨hsep, hfar⟩ := h.sep id e he
 have hge : e.g ∉ e.s.pe.dm.bl := hsep.g _ (by simp [wos])
 have hB : Bk w1 e.g 113 (pcs e.s).toArray := (h.bk he).kp hk0 hge
 have ho := ((h.on hb).rows id e he)
 have hw : ∀ (i : Nat) x, (wos e.s)[i]? = some x → i ≠ 0 → ∀ b ∈ x.bl, b ∉ e.s.pe.dm.v.ownBlock.toList := fun i x hx h0 b hb hm => h0 (hsep.two i 0 x e.s.pe.dm b hx rfl hb hm)
 have hr : ∀ z ∈ ros e.s, ∀ b ∈ e.s.pe.dm.v.ownBlock.toList, z.Frb b := fun z hz b hb => (hfar b (hm b hb)).2.2.2 z hz
 refine (h.put he hk0 (fun b hb => hm b hb) (kp1 _ _ _ _) (s' := { e.s with pe := { e.s.pe with dm := l } }) (hB.set 2 l.v) ⟨⟨⟨hl, rd_farw ho.ok.pe.fr hk (hw 1 _ rfl (by omega)), rd_far ho.ok.pe.rg hk (hr _ (by simp [ros])), rd_far ho.ok.pe.od hk (hr _ (by simp [ros])), rd_farw ho.ok.pe.pl hk (hw 2 _ rfl (by omega))⟩,
  ⟨rd_far ho.ok.ca.dm hk (hr _ (by simp [ros])), rd_far ho.ok.ca.fr hk (hr _ (by simp [ros])), rd_far ho.ok.ca.rg hk (hr _ (by simp [ros])), rd_far ho.ok.ca.od hk (hr _ (by simp [ros])), rd_farw ho.ok.ca.pl hk (hw 3 _ rfl (by omega))⟩,
  ⟨rd_far ho.ok.no.dm hk (hr _ (by simp [ros])), rd_far ho.ok.no.fr hk (hr _ (by simp [ros])), rd_far ho.ok.no.rg hk (hr _ (by simp [ros])), rd_far ho.ok.no.od hk (hr _ (by simp [ros])), rd_farw ho.ok.no.pl hk (hw 4 _ rfl (by omega))⟩⟩,
  ho', own_far ho.fr hk (hw 1 _ rfl (by omega)), own_far ho.pp hk (hw 2 _ rfl (by omega)), own_far ho.cp hk (hw 3 _ rfl (by omega)), own_far ho.np hk (hw 4 _ rfl (by omega))⟩ (k := 0)
  ⟨.fresh hn, .same, .same, .same, .same, .same, .same, .same, .same, .same, .same, .same, .same, .same, .same⟩).as (pab_upd he (dmgS r) ⟨e.g, { e.s with pe := { e.s.pe with dm := l } }⟩ ?_)
 simp only [Sr.f, Sx.q, dmgS, hll]
theorem Pf.putFr (h : Pf base w0 p m L) (he : gt L id = some e) (hb : Below w0.heap.size w0 w) {w1 : World} {l : Sl} {r : Int} (ho' : w1.ownsRow base 3 1 l.v l.n (mcs l.l)) (hl : RdM 1 w1 l.a l.n l.c l.l) (hg : w.grownBy w1 e.s.pe.fr.v.ownBlock) (hn : ∀ b ∈ l.bl, b ∈ e.s.pe.fr.bl ∨ w0.heap.size ≤ b) (hll : l.l = e.s.pe.fr.l ++ [[r]]) :
  PfR base w0 p m L (upd (pab L) id (frmS r)) (w1.setCell ⟨e.g, 3, none⟩ l.v) (st L id ⟨e.g, { e.s with pe := { e.s.pe with fr := l } }⟩) := by
 have hk := kp_of_grown hg
 have hm : ∀ b ∈ e.s.pe.fr.bl, b ∈ wb e := fun b hb => mem_wb.2 (.inr ⟨_, by simp [wos], hb⟩)
 have hk0 : Kp e.s.pe.fr.bl w0 w1 := (kp_of_below hb e.s.pe.fr.bl).trans hk (fun b hb _ => hb)
 obtain ⟨hsep, hfar⟩ := h.sep id e he
 have hge : e.g ∉ e.s.pe.fr.bl := hsep.g _ (by simp [wos])
 have hB : Bk w1 e.g 113 (pcs e.s).toArray := (h.bk he).kp hk0 hge
 have ho := ((h.on hb).rows id e he)
 have hw : ∀ (i : Nat) x, (wos e.s)[i]? = some x → i ≠ 1 → ∀ b ∈ x.bl, b ∉ e.s.pe.fr.v.ownBlock.toList := fun i x hx h0 b hb hm => h0 (hsep.two i 1 x e.s.pe.fr b hx rfl hb hm)
 have hr : ∀ z ∈ ros e.s, ∀ b ∈ e.s.pe.fr.v.ownBlock.toList, z.Frb b := fun z hz b hb => (hfar b (hm b hb)).2.2.2 z hz
 refine (h.put he hk0 (fun b hb => hm b hb) (kp1 _ _ _ _) (s' := { e.s with pe := { e.s.pe with fr := l } }) (hB.set 3 l.v) ⟨⟨⟨rd_farw ho.ok.pe.dm hk (hw 0 _ rfl (by omega)), hl, rd_far ho.ok.pe.rg hk (hr _ (by simp [ros])), rd_far ho.ok.pe.od hk (hr _ (by simp [ros])), rd_farw ho.ok.pe.pl hk (hw 2 _ rfl (by omega))⟩,
  ⟨rd_far ho.ok.ca.dm hk (hr _ (by simp [ros])), rd_far ho.ok.ca.fr hk (hr _ (by simp [ros])), rd_far ho.ok.ca.rg hk (hr _ (by simp [ros])), rd_far ho.ok.ca.od hk (hr _ (by simp [ros])), rd_farw ho.ok.ca.pl hk (hw 3 _ rfl (by omega))⟩,
  ⟨rd_far ho.ok.no.dm hk (hr _ (by simp [ros])), rd_far ho.ok.no.fr hk (hr _ (by simp [ros])), rd_far ho.ok.no.rg hk (hr _ (by simp [ros])), rd_far ho.ok.no.od hk (hr _ (by simp [ros])), rd_farw ho.ok.no.pl hk (hw 4 _ rfl (by omega))⟩⟩,
  own_far ho.dm hk (hw 0 _ rfl (by omega)), ho', own_far ho.pp hk (hw 2 _ rfl (by omega)), own_far ho.cp hk (hw 3 _ rfl (by omega)), own_far ho.np hk (hw 4 _ rfl (by omega))⟩ (k := 1)
  ⟨.same, .fresh hn, .same, .same, .same, .same, .same, .same, .same, .same, .same, .same, .same, .same, .same⟩).as (pab_upd he (frmS r) ⟨e.g, { e.s with pe := { e.s.pe with fr := l } }⟩ ?_)
 simp only [Sr.f, Sx.q, frmS, hll]
theorem Pf.putIn (h : Pf base w0 p m L) (he : gt L id = some e) (hb : Below w0.heap.size w0 w) (a : Bool) (l : Sl) (hl : RdM 4 w l.a l.n l.c l.l) (hn : ∀ y, l.a = some y → 0 < l.n → w0.heap.size ≤ y.block) (hk : Kp [e.g] w w') (hB : Bk w' e.g 113 (pcs { e.s with pe := { e.s.pe with inp := true, all := a, rg := l } }).toArray) (M : List (List Int)) (hM : l.l = bif a then [] else M) :
  PfR base w0 p m L (upd (pab L) id (inpS a M)) w' (st L id ⟨e.g, { e.s with pe := { e.s.pe with inp := true, all := a, rg := l } }⟩) := by
 have ho := ((h.on hb).rows id e he)
 refine h.putC he hb hk { e.s with pe := { e.s.pe with inp := true, all := a, rg := l } } hB ⟨⟨⟨ho.ok.pe.dm, ho.ok.pe.fr, hl, ho.ok.pe.od, ho.ok.pe.pl⟩, ho.ok.ca, ho.ok.no⟩, ho.dm, ho.fr, ho.pp, ho.cp, ho.np⟩ (k := 5) ⟨.same, .same, .same, .same, .same, .inr fun y hy h0 => ⟨hn y hy h0, by simp [wk, wos]⟩, .same, .same, .same, .same, .same, .same, .same, .same, .same⟩ _ ?_
 simp only [Sr.f, Sx.q, inpS, hM]
theorem Pf.putTak (h : Pf base w0 p m L) (he : gt L id = some e) (hb : Below w0.heap.size w0 w) :
  PfR base w0 p m L (upd (pab L) id takS) (w.setCell ⟨e.g, 23, none⟩ (.slice none 0 0)) (st L id ⟨e.g, { e.s with no := { e.s.no with fr := sl0 } }⟩) := by
 have ho := ((h.on hb).rows id e he)
 refine h.putC he hb (kp1 _ _ _ _) { e.s with no := { e.s.no with fr := sl0 } } ?_ ⟨⟨ho.ok.pe, ho.ok.ca, ⟨ho.ok.no.dm, RdM.nil _ _, ho.ok.no.rg, ho.ok.no.od, ho.ok.no.pl⟩⟩, ho.dm, ho.fr, ho.pp, ho.cp, ho.np⟩ (k := 5) ⟨.same, .same, .same, .same, .same, .same, .same, .same, .same, .same, .same, .same, .nil rfl, .same, .same⟩ _ rfl
 exact ((h.on hb).bk he).set 23 (.slice none 0 0)
theorem Pf.putCm (h : Pf base w0 p m L) (he : gt L id = some e) (hb : Below w0.heap.size w0 w) (r : Sx) (hr : r.Ok w) (hn : r.New w0.heap.size) (ho' : w.ownsRow w0.heap.size 46 3 r.pl.v r.pl.n (mcs r.pl.l)) (hp : r.Plf) (hk : Kp [e.g] w w') (hB : Bk w' e.g 113 (pcs { e.s with ca := r, pe := sx0 }).toArray) (hq : r.q = mrg e.s.ca.q e.s.pe.q) :
  PfR base w0 p m L (upd (pab L) id fun s => { s with ca := mrg s.ca s.pe, pe := sq0 }) w' (st L id ⟨e.g, { e.s with ca := r, pe := sx0 }⟩) := by
 have ho := ((h.on hb).rows id e he)
 have hB' := (h.lt.1)
 have hlo := h.lop
 have hwk : ∀ b ∈ wk 3 { e.s with ca := r, pe := sx0 }, ∃ y, r.pl.a = some y ∧ y.block = b := fun b hb => bl_of.1 (by simpa [wk, wos] using hb)
 refine h.putC he hb hk { e.s with ca := r, pe := sx0 } hB ⟨⟨sx0_ok w, hr, ho.ok.no⟩, World.ownsRow_nil _ _ _ _, World.ownsRow_nil _ _ _ _, World.ownsRow_nil _ _ _ _, ownsRow_low ho' (by omega), ho.np⟩ (k := 3)
  ⟨.nil rfl, .nil rfl, .nil rfl, .fresh fun b hb => .inr (own_blk ho' hb).1, .same, .nil rfl, .nil rfl,
   .inr fun y hy h0 => ⟨hn.dm y hy, fun hm => ?_⟩, .inr fun y hy h0 => ⟨hn.fr y hy, fun hm => ?_⟩, .inr fun y hy h0 => ⟨hn.rg y hy, fun hm => ?_⟩, .inr fun y hy h0 => ⟨hn.od y hy, fun hm => ?_⟩, .same, .same, .same, .same⟩ _ ?_
 ·obtain ⟨z, hz, e1⟩ := hwk _ hm
  exact (hp z hz y).1 hy h0 e1.symm
 ·obtain ⟨z, hz, e1⟩ := hwk _ hm
  exact (hp z hz y).2.1 hy h0 e1.symm
 ·obtain ⟨z, hz, e1⟩ := hwk _ hm
  exact (hp z hz y).2.2.1 hy h0 e1.symm
 ·obtain ⟨z, hz, e1⟩ := hwk _ hm
  exact (hp z hz y).2.2.2 hy h0 e1.symm
 ·simp only [Sr.f, hq, sx0_q]
theorem Pf.putAp (h : Pf base w0 p m L) (he : gt L id = some e) (hb : Below w0.heap.size w0 w) (r : Sx) (hr : r.Ok w) (hn : r.New w0.heap.size) (ho' : w.ownsRow w0.heap.size 46 3 r.pl.v r.pl.n (mcs r.pl.l)) (hp : r.Plf) (hk : Kp [e.g] w w') (hB : Bk w' e.g 113 (pcs { e.s with no := r, ca := sx0 }).toArray) (hq : r.q = apl e.s.no.q e.s.ca.q) :
  PfR base w0 p m L (upd (pab L) id aplS) w' (st L id ⟨e.g, { e.s with no := r, ca := sx0 }⟩) := by
 have ho := ((h.on hb).rows id e he)
 have hB' := (h.lt.1)
 have hlo := h.lop
 have hwk : ∀ b ∈ wk 4 { e.s with no := r, ca := sx0 }, ∃ y, r.pl.a = some y ∧ y.block = b := fun b hb => bl_of.1 (by simpa [wk, wos] using hb)
 refine h.putC he hb hk { e.s with no := r, ca := sx0 } hB ⟨⟨ho.ok.pe, sx0_ok w, hr⟩, ho.dm, ho.fr, ho.pp, World.ownsRow_nil _ _ _ _, ownsRow_low ho' (by omega)⟩ (k := 4)
  ⟨.same, .same, .same, .nil rfl, .fresh fun b hb => .inr (own_blk ho' hb).1, .same, .same, .nil rfl, .nil rfl, .nil rfl, .nil rfl,
   .inr fun y hy h0 => ⟨hn.dm y hy, fun hm => ?_⟩, .inr fun y hy h0 => ⟨hn.fr y hy, fun hm => ?_⟩, .inr fun y hy h0 => ⟨hn.rg y hy, fun hm => ?_⟩, .inr fun y hy h0 => ⟨hn.od y hy, fun hm => ?_⟩⟩ _ ?_
 ·obtain ⟨z, hz, e1⟩ := hwk _ hm
  exact (hp z hz y).1 hy h0 e1.symm
 ·obtain ⟨z, hz, e1⟩ := hwk _ hm
  exact (hp z hz y).2.1 hy h0 e1.symm
 ·obtain ⟨z, hz, e1⟩ := hwk _ hm
  exact (hp z hz y).2.2.1 hy h0 e1.symm
 ·obtain ⟨z, hz, e1⟩ := hwk _ hm
  exact (hp z hz y).2.2.2 hy h0 e1.symm
 ·simp only [Sr.f, hq, sx0_q, aplS]
end
section
section
variable {H : Type} {P : Program} {ops : Array Oper} {rest : List Oper} {o : Oper} {a : Act} (w : World) {Q : Exit → Act → World → Prop}
end
variable {base : Nat} {w w' : World} {p m : Nat} {L : Po} {id : Int} {es : List Addr}
theorem kBt (id : Int) (h : Bt id) : keyOf Tryz.prog 3 (.int .i64 id) = some (.int .i64 id) :=
 Maps.keyOf_int_mk Tryz.underlying3 (by unfold Bt at h; simp [Lit.wf, IntKind.min, IntKind.max, IntKind.signed, IntKind.bits]; omega)
theorem zPt (w : World) : (zeroValue 110).run Tryz.prog w = .ok (ptv none) w := by kernel_rfl
def pto (L : Po) (id : Int) : Option Nat := (gt L id).map (·.g)
theorem Pf.look (h : Pf base w p m L) : ∃ D, w.ownsMap Tryz.prog 3 ptR m L.length D ∧ ∀ k : Int, Maps.has D (.int .i64 k) = (gt L k).isSome ∧ D.atKey (.int .i64 k) (ptd none) = ptd (pto L k) := by
 obtain ⟨D, h1, h2⟩ := h.own
 refine ⟨D, h1, fun k => ?_⟩
 obtain ⟨h3, h4⟩ := h2 k
 rw [gt_pmp] at h3 h4
 refine ⟨by rw [h3]; cases gt L k <;> rfl, ?_⟩
 rw [h4, pto]
 cases gt L k <;> rfl
theorem ffind_any (hE : Fe w es) (h : Pf base w p m L) (id : Int) (hi : Bt id) :
  Calls Tryz.prog 60 #[.pointer (some ⟨p, 0, none⟩), .int .i64 id] w fun e w' => e = .returned (.tuple #[ptv (pto L id), erv es (hasE (pab L) id)]) ∧ ∃ q, w' = w.drewN q := by
 obtain ⟨D, ho, hA⟩ := h.look
 have HO := hid ho
 have HA := hid (hA id)
 have HZ := hid (zPt w)
 have HK := hid (kBt id hi)
 have c0 := h.c0
 have l0 := h.lt.1
 cases hq : gt L id with
 | none =>
  have HS : Hid (pto L id = none ∧ hasE (pab L) id = 5) := ⟨by rw [pto, hq]; rfl, by rw [hasE, gt_pab, hq]; rfl⟩
  rw [hq, HS.out.1] at HA
  rw [HS.out.1, HS.out.2]
  have c5 := hE.obj
  have l5 := World.block_lt_of_cell? _ _ c5
  clear hq h ho hA HS hE
  go_enter Tryz.func60, Tryz.ntmps60
  go_wp2_with (at_lookup; refine wpList_lookup_own_ok _ rfl (.tmp 12) (.tmp 13) 95 rfl 3 110 (Maps.int_keyed Tryz.underlying3) Tryz.underlying95 ptR HZ.out _ _ (ptR_mk none) m _ D rfl HO.out _ _ rfl HK.out ?_; intro v ps hv; rw [HA.out.2] at hv; obtain rfl := ptR_inv hv; rw [HA.out.1, Option.isSome_none]; clear hv)
  go_region
  go_wp2
  go_ret2
  exact ⟨rfl, 1, rfl⟩
 | some e =>
  have HS : Hid (pto L id = some e.g ∧ hasE (pab L) id = 0) := ⟨by rw [pto, hq]; rfl, by rw [hasE, gt_pab, hq]; rfl⟩
  rw [hq, HS.out.1] at HA
  rw [HS.out.1, HS.out.2]
  clear hq h ho hA HS hE
  go_enter Tryz.func60, Tryz.ntmps60
  go_wp2_with (at_lookup; refine wpList_lookup_own_ok _ rfl (.tmp 12) (.tmp 13) 95 rfl 3 110 (Maps.int_keyed Tryz.underlying3) Tryz.underlying95 ptR HZ.out _ _ (ptR_mk none) m _ D rfl HO.out _ _ rfl HK.out ?_; intro v ps hv; rw [HA.out.2] at hv; obtain rfl := ptR_inv hv; rw [HA.out.1, Option.isSome_some]; clear hv)
  go_ret2
  exact ⟨rfl, 0, rfl⟩
theorem fhas_any (h : Pf base w p m L) (id : Int) (hi : Bt id) :
  Calls Tryz.prog 56 #[.pointer (some ⟨p, 0, none⟩), .int .i64 id] w fun e w' => e = .returned (.bool (gt L id).isSome) ∧ w' = w := by
 obtain ⟨D, ho, hA⟩ := h.look
 have HO := hid ho
 have HA := hid (hA id)
 have HZ := hid (zPt w)
 have HK := hid (kBt id hi)
 have c0 := h.c0
 have l0 := h.lt.1
 clear h ho hA
 go_enter Tryz.func56, Tryz.ntmps56
 go_wp2_with (at_lookup; refine wpList_lookup_own_ok _ rfl (.tmp 11) (.tmp 12) 95 rfl 3 110 (Maps.int_keyed Tryz.underlying3) Tryz.underlying95 ptR HZ.out _ _ (ptR_mk none) m _ D rfl HO.out _ _ rfl HK.out ?_; intro v ps hv; rw [HA.out.2] at hv; obtain rfl := ptR_inv hv; rw [HA.out.1]; clear hv)
 go_ret
 exact ⟨rfl, rfl⟩
def parF (F : Fo) (id : Int) : Int := match gt F id with
 | none => 0
 | some s => s.par
theorem Fe.drewN (h : Fe w es) (q : Nat) : Fe (w.drewN q) es := h.on (below_drewN (Below.refl _ _) q)
theorem Pf.drewN (h : Pf base w p m L) (q : Nat) : Pf base (w.drewN q) p m L := h.on (below_drewN (Below.refl _ _) q)
theorem ptv_some (g : Nat) : ptv (some g) = .pointer (some ⟨g, 0, none⟩) := rfl
theorem ptv_none : ptv none = .pointer none := rfl
theorem erv0 (es : List Addr) : erv es 0 = .nilIface := rfl
theorem erv_succ (es : List Addr) (k : Nat) : erv es (k + 1) = .iface 183 (.pointer (some (es.getD k ⟨0, 0, none⟩))) := rfl
theorem fparent_any (hE : Fe w es) (h : Pf base w p m L) (id : Int) (hi : Bt id) :
  Calls Tryz.prog 74 #[.pointer (some ⟨p, 0, none⟩), .int .i64 id] w fun e w' => e = .returned (.int .i64 (parF (pab L) id)) ∧ ∃ q, w' = w.drewN q := by
 have HF := hid (ffind_any hE h id hi)
 cases hq : gt L id with
 | none =>
  have HS : Hid (pto L id = none ∧ hasE (pab L) id = 5 ∧ parF (pab L) id = 0) := ⟨by rw [pto, hq]; rfl, by rw [hasE, gt_pab, hq]; rfl, by rw [parF, gt_pab, hq]; rfl⟩
  rw [HS.out.1, HS.out.2.1] at HF
  rw [HS.out.2.2]
  clear hq h hE HS
  go_enter Tryz.func74, Tryz.ntmps74
  go_wp2_with fail
  refine HF.out.mono ?_
  rintro e w1 ⟨rfl, q1, rfl⟩
  rw [ptv_none, erv_succ]
  go_wp2
  go_ret
  exact ⟨rfl, q1, rfl⟩
 | some e =>
  have HS : Hid (pto L id = some e.g ∧ hasE (pab L) id = 0 ∧ parF (pab L) id = e.s.par) := ⟨by rw [pto, hq]; rfl, by rw [hasE, gt_pab, hq]; rfl, by rw [parF, gt_pab, hq]; rfl⟩
  rw [HS.out.1, HS.out.2.1] at HF
  rw [HS.out.2.2]
  have HC : Hid (∀ q, (w.drewN q).cell? ⟨e.g, 30, none⟩ = some (.int .i64 e.s.par)) := fun q => (h.drewN q).cell hq
  have hlt := (h.wlt hq (mem_wb.2 (.inl rfl))).2
  clear hq h hE HS
  go_enter Tryz.func74, Tryz.ntmps74
  go_wp2_with fail
  refine HF.out.mono ?_
  rintro e' w1 ⟨rfl, q1, rfl⟩
  have c1 := HC.out q1
  rw [ptv_some, erv0]
  go_wp2
  go_ret
  exact ⟨rfl, q1, rfl⟩
end
section
variable {base : Nat} {w w' : World} {p m : Nat} {L : Po} {id : Int} {es : List Addr}
theorem Pf.run (h : Pf base w p m L) {k : Int} (hi : Bt k) : (Instr.lookup 95 (.map (some m)) (.int .i64 k) false).run Tryz.prog w = .ok (ptv (pto L k)) w := by
 obtain ⟨D, ho, hA⟩ := h.look
 obtain ⟨v, ps, hrun, hv⟩ := ho.lookup (Maps.int_keyed Tryz.underlying3) Tryz.underlying95 (zPt w) (ptR_mk none) (kBt k hi)
 rw [(hA k).2] at hv
 obtain rfl := ptR_inv hv
 exact hrun
def fs1 (L : Po) (id : Int) : Option Nat := match gt L id with
 | none => none
 | some e => if e.s.par = 0 then none else some e.g
def fs2 (L : Po) (id : Int) : Option Nat := match gt L id with
 | none => none
 | some e => if e.s.par = 0 then none else pto L e.s.par
theorem ffindsub_any (hE : Fe w es) (h : Pf base w p m L) (id : Int) (hi : Bt id) (hp : ∀ e, gt L id = some e → Bt e.s.par) :
  Calls Tryz.prog 87 #[.pointer (some ⟨p, 0, none⟩), .int .i64 id] w fun e w' => e = .returned (.tuple #[ptv (fs1 L id), ptv (fs2 L id), erv es (unsE (pab L) id)]) ∧ ∃ q, w' = w.drewN q := by
 have HF := hid (ffind_any hE h id hi)
 cases hq : gt L id with
 | none =>
  have HS : Hid (pto L id = none ∧ hasE (pab L) id = 5) := ⟨by rw [pto, hq]; rfl, by rw [hasE, gt_pab, hq]; rfl⟩
  have HT : Hid (fs1 L id = none ∧ fs2 L id = none ∧ unsE (pab L) id = 5) := ⟨by rw [fs1, hq], by rw [fs2, hq], by rw [unsE, gt_pab, hq]; rfl⟩
  rw [HS.out.1, HS.out.2] at HF
  rw [HT.out.1, HT.out.2.1, HT.out.2.2]
  clear hq h hE HS HT hp
  go_enter Tryz.func87, Tryz.ntmps87
  go_wp2_with fail
  refine HF.out.mono ?_
  rintro e w1 ⟨rfl, q1, rfl⟩
  rw [ptv_none, erv_succ]
  go_wp2
  go_ret3
  exact ⟨rfl, q1, rfl⟩
 | some e =>
  have HS : Hid (pto L id = some e.g ∧ hasE (pab L) id = 0) := ⟨by rw [pto, hq]; rfl, by rw [hasE, gt_pab, hq]; rfl⟩
  rw [HS.out.1, HS.out.2] at HF
  have HC : Hid (∀ q, (w.drewN q).cell? ⟨e.g, 30, none⟩ = some (.int .i64 e.s.par)) := fun q => (h.drewN q).cell hq
  have hlt := (h.wlt hq (mem_wb.2 (.inl rfl))).2
  cases h0 : (e.s.par == 0)
  ·have h0' : e.s.par ≠ 0 := by simpa using h0
   have HT : Hid (fs1 L id = some e.g ∧ fs2 L id = pto L e.s.par ∧ unsE (pab L) id = 0) := ⟨by rw [fs1, hq]; simp [h0'], by rw [fs2, hq]; simp [h0'], by rw [unsE, gt_pab, hq]; simp [Sr.f, h0']⟩
   rw [HT.out.1, HT.out.2.1, HT.out.2.2]
   have HR : Hid (∀ q, (Instr.lookup 95 (.map (some m)) (.int .i64 e.s.par) false).run Tryz.prog (w.drewN q) = .ok (ptv (pto L e.s.par)) (w.drewN q)) := fun q => (h.drewN q).run (hp e hq)
   have HM : Hid (∀ q, (w.drewN q).cell? ⟨p, 0, none⟩ = some (.map (some m))) := fun q => (h.drewN q).c0
   have hlp := h.lt.1
   clear hq h hE HS HT h0' hp
   go_enter Tryz.func87, Tryz.ntmps87
   go_wp2_with fail
   refine HF.out.mono ?_
   rintro e' w1 ⟨rfl, q1, rfl⟩
   have c1 := HC.out q1
   have c2 := HM.out q1
   have c3 := HR.out q1
   have c4 := HC.out (q1 + 1)
   have c5 := HM.out (q1 + 1)
   have c6 := HR.out (q1 + 1)
   rw [ptv_some, erv0]
   go_wp2_with fail
   go_region
   go_wp2_with fail
   go_ret3
   exact ⟨rfl, q1 + 1, rfl⟩
  ·have h0' : e.s.par = 0 := by simpa using h0
   have HT : Hid (fs1 L id = none ∧ fs2 L id = none ∧ unsE (pab L) id = 10) := ⟨by rw [fs1, hq]; simp [h0'], by rw [fs2, hq]; simp [h0'], by rw [unsE, gt_pab, hq]; simp [Sr.f, h0']⟩
   rw [HT.out.1, HT.out.2.1, HT.out.2.2]
   have cr := hE.rol
   have hlr := World.block_lt_of_cell? _ _ hE.rol
   clear hq h hE HS HT h0' hp
   go_enter Tryz.func87, Tryz.ntmps87
   go_wp2_with fail
   refine HF.out.mono ?_
   rintro e' w1 ⟨rfl, q1, rfl⟩
   have c1 := HC.out q1
   rw [ptv_some, erv0]
   go_wp2_with fail
   go_region
   go_wp2_with fail
   go_ret3
   exact ⟨rfl, q1 + 1, rfl⟩
theorem fsynced_any (hE : Fe w es) (h : Pf base w p m L) (hA : Acy (pab L)) (hP : ∀ x e, gt L x = some e → Bt e.s.par) : ∀ (d : Nat) (x : Int), Bt x → dpt (pab L) x ≤ d → ∀ q0,
  Calls Tryz.prog 62 #[.pointer (some ⟨p, 0, none⟩), .int .i64 x] (w.drewN q0) fun e w' => e = .returned (.bool (sy (pab L) x)) ∧ ∃ q, w' = w.drewN q := by
 intro d
 induction d with
 | zero =>
  intro x hx hd q0
  have HF := hid (ffindsub_any (hE.drewN q0) (h.drewN q0) x hx (hP x))
  have hn : gt (pab L) x = none := by
   cases hg : gt (pab L) x with
   | none => rfl
   | some s =>
    have := dpt_lt hA hg
    omega
  have hn' : gt L x = none := by
   rw [gt_pab] at hn
   exact Option.map_eq_none_iff.1 hn
  have HT : Hid (fs1 L x = none ∧ fs2 L x = none ∧ unsE (pab L) x = 5) := ⟨by rw [fs1, hn'], by rw [fs2, hn'], by rw [unsE, hn]⟩
  rw [HT.out.1, HT.out.2.1, HT.out.2.2] at HF
  rw [sy_none hn]
  clear hn hn' HT h hE hP hA
  go_enter Tryz.func62, Tryz.ntmps62
  go_wp2_with fail
  refine HF.out.mono ?_
  rintro e w1 ⟨rfl, q1, rfl⟩
  rw [ptv_none, erv_succ]
  go_wp2
  go_ret
  exact ⟨rfl, q0 + q1, by simp⟩
 | succ d ih =>
  intro x hx hd q0
  have HF := hid (ffindsub_any (hE.drewN q0) (h.drewN q0) x hx (hP x))
  cases hq : gt L x with
  | none =>
   have hn : gt (pab L) x = none := by rw [gt_pab, hq]; rfl
   have HT : Hid (fs1 L x = none ∧ fs2 L x = none ∧ unsE (pab L) x = 5) := ⟨by rw [fs1, hq], by rw [fs2, hq], by rw [unsE, hn]⟩
   rw [HT.out.1, HT.out.2.1, HT.out.2.2] at HF
   rw [sy_none hn]
   clear hn hq HT h hE hP hA ih
   go_enter Tryz.func62, Tryz.ntmps62
   go_wp2_with fail
   refine HF.out.mono ?_
   rintro e w1 ⟨rfl, q1, rfl⟩
   rw [ptv_none, erv_succ]
   go_wp2
   go_ret
   exact ⟨rfl, q0 + q1, by simp⟩
  | some e =>
   have hs : gt (pab L) x = some e.s.f := by rw [gt_pab, hq]; rfl
   cases h0 : (e.s.par == 0)
   ·have h0' : e.s.par ≠ 0 := by simpa using h0
    have HT : Hid (fs1 L x = some e.g ∧ fs2 L x = pto L e.s.par ∧ unsE (pab L) x = 0) := ⟨by rw [fs1, hq]; simp [h0'], by rw [fs2, hq]; simp [h0'], by rw [unsE, hs]; simp [Sr.f, h0']⟩
    rw [HT.out.1, HT.out.2.1, HT.out.2.2] at HF
    have c1 : w.cell? ⟨e.g, 30, none⟩ = some (.int .i64 e.s.par) := h.cell hq
    have c2 : w.cell? ⟨e.g, 31, none⟩ = some (.bool e.s.syn) := h.cell hq
    have hlt := (h.wlt hq (mem_wb.2 (.inl rfl))).2
    have hdp : dpt (pab L) e.s.par ≤ d := by
     have := dpt_lt hA hs
     simp only [Sr.f] at this
     omega
    have HI := hid (ih e.s.par (hP x e hq) hdp)
    have HY : Hid (sy (pab L) x = (e.s.syn || sy (pab L) e.s.par)) := by
     rw [Hid, sy_some hs]
     simp [Sr.f, h0']
    clear HT h hE hP hA ih hs hq hdp
    rw [HY.out]
    clear HY
    cases hsy : e.s.syn
    ·rw [hsy] at c2
     go_enter Tryz.func62, Tryz.ntmps62
     go_wp2_with fail
     refine HF.out.mono ?_
     rintro e' w1 ⟨rfl, q1, rfl⟩
     rw [ptv_some, erv0]
     go_wp2_with fail
     have hd2 : (w.drewN q0).drewN q1 = w.drewN (q0 + q1) := by simp
     refine (HI.out (q0 + q1)).mono ?_
     rintro e' w2 ⟨rfl, q2, rfl⟩
     go_wp2
     go_ret
     exact ⟨by simp, q2, rfl⟩
    ·rw [hsy] at c2
     go_enter Tryz.func62, Tryz.ntmps62
     go_wp2_with fail
     refine HF.out.mono ?_
     rintro e' w1 ⟨rfl, q1, rfl⟩
     rw [ptv_some, erv0]
     go_wp2
     go_ret
     exact ⟨by simp, q0 + q1, by simp⟩
   ·have h0' : e.s.par = 0 := by simpa using h0
    have HT : Hid (fs1 L x = none ∧ fs2 L x = none ∧ unsE (pab L) x = 10) := ⟨by rw [fs1, hq]; simp [h0'], by rw [fs2, hq]; simp [h0'], by rw [unsE, hs]; simp [Sr.f, h0']⟩
    rw [HT.out.1, HT.out.2.1, HT.out.2.2] at HF
    have HY : Hid (sy (pab L) x = false) := by
     rw [Hid, sy_some hs]
     simp [Sr.f, h0']
    rw [HY.out]
    clear HT h hE hP hA ih hs hq HY
    go_enter Tryz.func62, Tryz.ntmps62
    go_wp2_with fail
    refine HF.out.mono ?_
    rintro e w1 ⟨rfl, q1, rfl⟩
    rw [ptv_none, erv_succ]
    go_wp2
    go_ret
    exact ⟨rfl, q0 + q1, by simp⟩
end
end Go.Proofs.YtkjempffidndeaaGreatDoor
