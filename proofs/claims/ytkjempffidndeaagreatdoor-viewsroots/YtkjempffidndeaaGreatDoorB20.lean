/- Lemmas that the proof leans on. -/
import Derived.Test.YtkjempffidndeaaGreatDoorB19
namespace Go.Proofs.YtkjempffidndeaaGreatDoor
open Go Go.RowKit
open List renaming getElem_toArray → lqA, getElem_cons_zero → lqB, getElem_cons_succ → lqC, setIfInBounds_toArray → lqD, set_cons_zero → lqE, set_cons_succ → lqF
set_option maxRecDepth 100000
set_option maxHeartbeats 2000000
section
def stx : Nat → Sr → Sx
 | 0, s => s.pe
 | 1, s => s.ca
 | _, s => s.no
def sux : Nat → Sx → Sr → Sr
 | 0, x, s => { s with pe := x }
 | 1, x, s => { s with ca := x }
 | _, x, s => { s with no := x }
theorem stx_sux {j : Nat} (x : Sx) (s : Sr) : stx j (sux j x s) = x := by
 match j with
 | 0 => rfl
 | 1 => rfl
 | j + 2 => rfl
theorem stx_sux_ne {i j : Nat} (hi : i < 3) (hj : j < 3) (hne : i ≠ j) (x : Sx) (s : Sr) : stx i (sux j x s) = stx i s := by
 match i, j with
 | 0, 0 => omega
 | 0, 1 => rfl
 | 0, 2 => rfl
 | 1, 0 => rfl
 | 1, 1 => omega
 | 1, 2 => rfl
 | 2, 0 => rfl
 | 2, 1 => rfl
 | 2, 2 => omega
theorem sux_par {j : Nat} (x : Sx) (s : Sr) : (sux j x s).par = s.par ∧ (sux j x s).syn = s.syn := by
 match j with
 | 0 => exact ⟨rfl, rfl⟩
 | 1 => exact ⟨rfl, rfl⟩
 | j + 2 => exact ⟨rfl, rfl⟩
theorem sxc_od (x : Sx) : (sxc x)[8]? = some (.slice x.od.a x.od.n x.od.c) := rfl
theorem sxc_pl (x : Sx) : (sxc x)[9]? = some (.slice x.pl.a x.pl.n x.pl.c) := rfl
theorem pcs_stx {j : Nat} (hj : j < 3) {k : Nat} (hk : k < 10) (s : Sr) : (pcs s)[j * 10 + k]? = (sxc (stx j s))[k]? := by
 match j with
 | 0 =>
  rw [pcs, Nat.zero_mul, Nat.zero_add, List.getElem?_append_left (by simpa [sxc] using hk)]
  rfl
 | 1 =>
  rw [pcs, List.getElem?_append_right (by simp [sxc]), List.getElem?_append_left (by simp [sxc]; omega)]
  simp [sxc, stx]
 | 2 =>
  rw [pcs, List.getElem?_append_right (by simp [sxc]; omega), List.getElem?_append_right (by simp [sxc]; omega), List.getElem?_append_left (by simp [sxc]; omega)]
  simp only [sxc, List.length_cons, List.length_nil, stx]
  congr 1
  omega
variable {base : Nat} {w0 w w' : World} {p m : Nat} {L L' : Po} {F : Fo} {id : Int} {es : List Addr} {e : Ps}
theorem st_st {α : Type} (l : List (Int × α)) (k : Int) (a b : α) : st (st l k a) k b = st l k b := by
 simp only [st, List.map_map]
 refine List.map_congr_left fun e _ => ?_
 simp only [Function.comp]
 split
 ·simp
 ·rfl
theorem st_self {α : Type} {l : List (Int × α)} (hn : (keys l).Nodup) {k : Int} {a : α} (h : gt l k = some a) : st l k a = l := by
 rw [st]
 conv => rhs; rw [← List.map_id l]
 refine List.map_congr_left fun x hx => ?_
 split
 ·rename_i hk
  have := gt_of_mem hn hx
  rw [hk, h] at this
  cases this
  rw [← hk]
  rfl
 ·rfl
theorem Pf.stOk (h : Pf base w p m L) (he : gt L id = some e) (j : Nat) : (stx j e.s).Ok w ∧ w.ownsRow base 46 3 (stx j e.s).pl.v (stx j e.s).pl.n (mcs (stx j e.s).pl.l) := by
 have ho := h.rows id e he
 match j with
 | 0 => exact ⟨ho.ok.pe, ho.pp⟩
 | 1 => exact ⟨ho.ok.ca, ho.cp⟩
 | j + 2 => exact ⟨ho.ok.no, ho.np⟩
theorem Pf.fgOd (h : Pf base w0 p m L) (he : gt L id = some e) {j : Nat} (hj : j < 3) (hb : Below w0.heap.size w0 w) (l : Sl) (hl : RdM 1 w l.a l.n l.c l.l) (hn : ∀ y, l.a = some y → 0 < l.n → w0.heap.size ≤ y.block) :
  PfR base w0 p m L (pab (st L id ⟨e.g, sux j { stx j e.s with od := l } e.s⟩)) (w.setCell ⟨e.g, j * 10 + 8, none⟩ l.v) (st L id ⟨e.g, sux j { stx j e.s with od := l } e.s⟩) := by
 have ho := ((h.on hb).rows id e he)
 have hB := (h.on hb).bk he
 have hf : ∀ (X : List Nat), X = [] → ∀ z : Sl, Rold w0.heap.size X z l := fun X hX z => .inr fun y hy h0 => ⟨hn y hy h0, by simp [hX]⟩
 match j, hj with
 | 0, _ => exact h.put he (kp_of_below hb []) (by simp) (kp1 _ _ _ _) (hB.set 8 l.v) ⟨⟨⟨ho.ok.pe.dm, ho.ok.pe.fr, ho.ok.pe.rg, hl, ho.ok.pe.pl⟩, ho.ok.ca, ho.ok.no⟩, ho.dm, ho.fr, ho.pp, ho.cp, ho.np⟩ (k := 5) ⟨.same, .same, .same, .same, .same, .same, hf _ rfl _, .same, .same, .same, .same, .same, .same, .same, .same⟩
 | 1, _ => exact h.put he (kp_of_below hb []) (by simp) (kp1 _ _ _ _) (hB.set 18 l.v) ⟨⟨ho.ok.pe, ⟨ho.ok.ca.dm, ho.ok.ca.fr, ho.ok.ca.rg, hl, ho.ok.ca.pl⟩, ho.ok.no⟩, ho.dm, ho.fr, ho.pp, ho.cp, ho.np⟩ (k := 5) ⟨.same, .same, .same, .same, .same, .same, .same, .same, .same, .same, hf _ rfl _, .same, .same, .same, .same⟩
 | 2, _ => exact h.put he (kp_of_below hb []) (by simp) (kp1 _ _ _ _) (hB.set 28 l.v) ⟨⟨ho.ok.pe, ho.ok.ca, ⟨ho.ok.no.dm, ho.ok.no.fr, ho.ok.no.rg, hl, ho.ok.no.pl⟩⟩, ho.dm, ho.fr, ho.pp, ho.cp, ho.np⟩ (k := 5) ⟨.same, .same, .same, .same, .same, .same, .same, .same, .same, .same, .same, .same, .same, .same, hf _ rfl _⟩
theorem Pf.fgPl (h : Pf base w0 p m L) (he : gt L id = some e) {j : Nat} (hj : j < 3) (hk0 : Kp (stx j e.s).pl.bl w0 w) (y : Sl) (hy : RdM 3 w y.a y.n y.c y.l) (ho' : w.ownsRow base 46 3 y.v y.n (mcs y.l)) (hn : ∀ b ∈ y.bl, b ∈ (stx j e.s).pl.bl) :
  PfR base w0 p m L (pab (st L id ⟨e.g, sux j { stx j e.s with pl := y } e.s⟩)) (w.setCell ⟨e.g, j * 10 + 9, none⟩ y.v) (st L id ⟨e.g, sux j { stx j e.s with pl := y } e.s⟩) := by
 obtain ⟨hsep, hfar⟩ := h.sep id e he
 have ho := h.rows id e he
 obtain ⟨i, hi⟩ : ∃ i : Nat, i = j + 2 := ⟨_, rfl⟩
 have hij : (wos e.s)[i]? = some (stx j e.s).pl := by
  match j, hj with
  | 0, _ => rw [hi]; rfl
  | 1, _ => rw [hi]; rfl
  | 2, _ => rw [hi]; rfl
 have hm : ∀ b ∈ (stx j e.s).pl.bl, b ∈ wb e := fun b hb => mem_wb.2 (.inr ⟨_, List.mem_of_getElem? hij, hb⟩)
 have hge : e.g ∉ (stx j e.s).pl.bl := hsep.g _ (List.mem_of_getElem? hij)
 have hB : Bk w e.g 113 (pcs e.s).toArray := (h.bk he).kp hk0 hge
 have hw : ∀ (i' : Nat) x, (wos e.s)[i']? = some x → i' ≠ i → ∀ b ∈ x.bl, b ∉ (stx j e.s).pl.bl := fun i' x hx h0 b hb hm => h0 (hsep.two i' i x _ b hx hij hb hm)
 have hr : ∀ z ∈ ros e.s, ∀ b ∈ (stx j e.s).pl.bl, z.Frb b := fun z hz b hb => (hfar b (hm b hb)).2.2.2 z hz
 have R : ∀ {m'} (z : Sl), z ∈ ros e.s → RdM m' w0 z.a z.n z.c z.l → RdM m' w z.a z.n z.c z.l := fun z hz h1 => rd_far h1 hk0 (hr z hz)
 have D := fun (h' : 0 ≠ i) => rd_farw ho.ok.pe.dm hk0 (hw 0 _ rfl h')
 have Fr := fun (h' : 1 ≠ i) => rd_farw ho.ok.pe.fr hk0 (hw 1 _ rfl h')
 have P2 := fun (h' : 2 ≠ i) => rd_farw ho.ok.pe.pl hk0 (hw 2 _ rfl h')
 have P3 := fun (h' : 3 ≠ i) => rd_farw ho.ok.ca.pl hk0 (hw 3 _ rfl h')
 have P4 := fun (h' : 4 ≠ i) => rd_farw ho.ok.no.pl hk0 (hw 4 _ rfl h')
 have oD := fun (h' : 0 ≠ i) => own_far ho.dm hk0 (hw 0 _ rfl h')
 have oF := fun (h' : 1 ≠ i) => own_far ho.fr hk0 (hw 1 _ rfl h')
 have o2 := fun (h' : 2 ≠ i) => own_far ho.pp hk0 (hw 2 _ rfl h')
 have o3 := fun (h' : 3 ≠ i) => own_far ho.cp hk0 (hw 3 _ rfl h')
 have o4 := fun (h' : 4 ≠ i) => own_far ho.np hk0 (hw 4 _ rfl h')
 have hold : ∀ k i', Old w0.heap.size k i' (stx j e.s).pl y := fun k i' b hb => .inl (hn b hb)
 match j, hj with
 | 0, _ => exact h.put he hk0 hm (kp1 _ _ _ _) (hB.set 9 y.v) ⟨⟨⟨D (by omega), Fr (by omega), R e.s.pe.rg (by simp [ros]) ho.ok.pe.rg, R e.s.pe.od (by simp [ros]) ho.ok.pe.od, hy⟩, ⟨R e.s.ca.dm (by simp [ros]) ho.ok.ca.dm, R e.s.ca.fr (by simp [ros]) ho.ok.ca.fr, R e.s.ca.rg (by simp [ros]) ho.ok.ca.rg, R e.s.ca.od (by simp [ros]) ho.ok.ca.od, P3 (by omega)⟩, ⟨R e.s.no.dm (by simp [ros]) ho.ok.no.dm, R e.s.no.fr (by simp [ros]) ho.ok.no.fr, R e.s.no.rg (by simp [ros]) ho.ok.no.rg, R e.s.no.od (by simp [ros]) ho.ok.no.od, P4 (by omega)⟩⟩, oD (by omega), oF (by omega), ho', o3 (by omega), o4 (by omega)⟩ (k := 5) ⟨.same, .same, hold _ _, .same, .same, .same, .same, .same, .same, .same, .same, .same, .same, .same, .same⟩
 | 1, _ => exact h.put he hk0 hm (kp1 _ _ _ _) (hB.set 19 y.v) ⟨⟨⟨D (by omega), Fr (by omega), R e.s.pe.rg (by simp [ros]) ho.ok.pe.rg, R e.s.pe.od (by simp [ros]) ho.ok.pe.od, P2 (by omega)⟩, ⟨R e.s.ca.dm (by simp [ros]) ho.ok.ca.dm, R e.s.ca.fr (by simp [ros]) ho.ok.ca.fr, R e.s.ca.rg (by simp [ros]) ho.ok.ca.rg, R e.s.ca.od (by simp [ros]) ho.ok.ca.od, hy⟩, ⟨R e.s.no.dm (by simp [ros]) ho.ok.no.dm, R e.s.no.fr (by simp [ros]) ho.ok.no.fr, R e.s.no.rg (by simp [ros]) ho.ok.no.rg, R e.s.no.od (by simp [ros]) ho.ok.no.od, P4 (by omega)⟩⟩, oD (by omega), oF (by omega), o2 (by omega), ho', o4 (by omega)⟩ (k := 5) ⟨.same, .same, .same, hold _ _, .same, .same, .same, .same, .same, .same, .same, .same, .same, .same, .same⟩
 | 2, _ => exact h.put he hk0 hm (kp1 _ _ _ _) (hB.set 29 y.v) ⟨⟨⟨D (by omega), Fr (by omega), R e.s.pe.rg (by simp [ros]) ho.ok.pe.rg, R e.s.pe.od (by simp [ros]) ho.ok.pe.od, P2 (by omega)⟩, ⟨R e.s.ca.dm (by simp [ros]) ho.ok.ca.dm, R e.s.ca.fr (by simp [ros]) ho.ok.ca.fr, R e.s.ca.rg (by simp [ros]) ho.ok.ca.rg, R e.s.ca.od (by simp [ros]) ho.ok.ca.od, P3 (by omega)⟩, ⟨R e.s.no.dm (by simp [ros]) ho.ok.no.dm, R e.s.no.fr (by simp [ros]) ho.ok.no.fr, R e.s.no.rg (by simp [ros]) ho.ok.no.rg, R e.s.no.od (by simp [ros]) ho.ok.no.od, hy⟩⟩, oD (by omega), oF (by omega), o2 (by omega), o3 (by omega), ho'⟩ (k := 5) ⟨.same, .same, .same, .same, hold _ _, .same, .same, .same, .same, .same, .same, .same, .same, .same, .same⟩
theorem pl_mem {j : Nat} (hj : j < 3) (s : Sr) : (stx j s).pl ∈ wos s := by
 match j, hj with
 | 0, _ => simp [wos, stx]
 | 1, _ => simp [wos, stx]
 | 2, _ => simp [wos, stx]
structure Fg (k : Int) (s : Sr) (j : Nat) (s' : Sr) : Prop where
 par : s'.par = s.par ∧ s'.syn = s.syn
 done : ∀ i, i < 3 → i < j → (stx i s').q = outQ k (stx i s).q
 left : ∀ i, i < 3 → j ≤ i → stx i s' = stx i s
theorem Fg.fin {k : Int} {s s' : Sr} (h : Fg k s 3 s') : s'.f = outS k s.f := by
 have h0 : s'.pe.q = outQ k s.pe.q := h.done 0 (by omega) (by omega)
 have h1 : s'.ca.q = outQ k s.ca.q := h.done 1 (by omega) (by omega)
 have h2 : s'.no.q = outQ k s.no.q := h.done 2 (by omega) (by omega)
 rw [Sr.f, outS, h0, h1, h2, h.par.1, h.par.2]
 rfl
theorem outL_od {w : World} {x : Sl} (h : RdM 1 w x.a x.n x.c x.l) (k : Int) : sg (dr k (un1 x.l)) = outL k x.l := by
 rw [← outL_sg, sg_un1 h.size]
theorem Fg.next {k : Int} {s s' : Sr} {j : Nat} (h : Fg k s j s') (hj : j < 3) {w : World} (hr : RdM 1 w (stx j s).od.a (stx j s).od.n (stx j s).od.c (stx j s).od.l) {l y : Sl} (hl : l.l = sg (dr k (un1 (stx j s).od.l))) (hy : y.l = outL k (stx j s).pl.l) :
  Fg k s (j + 1) (sux j { { stx j s' with od := l } with pl := y } s') := by
 have he := h.left j hj (Nat.le_refl _)
 refine ⟨⟨(sux_par _ _).1.trans h.par.1, (sux_par _ _).2.trans h.par.2⟩, fun i hi hlt => ?_, fun i hi hle => ?_⟩
 ·by_cases e1 : i = j
  ·subst e1
   rw [stx_sux, he]
   simp only [Sx.q, outQ, hl, hy, outL_od hr]
  ·rw [stx_sux_ne hi hj e1]
   exact h.done i hi (by omega)
 ·rw [stx_sux_ne hi hj (by omega)]
  exact h.left i hi (by omega)
structure Fr (base : Nat) (w : World) (p m : Nat) (L : Po) (id k : Int) (e : Ps) (c b : Nat) (j : Nat) (wr : World) : Prop where
 ex : ∃ s', Fg k e.s j s' ∧ PfR base w p m L (pab (st L id ⟨e.g, s'⟩)) wr (st L id ⟨e.g, s'⟩)
 ck : Bk wr c 3 #[.int .i64 k]
 bk : Bk wr b 115 #[.pointer (some ⟨e.g, 0, none⟩), .pointer (some ⟨e.g, 10, none⟩), .pointer (some ⟨e.g, 20, none⟩)]
 lc : w.heap.size ≤ c
 lb : w.heap.size ≤ b
theorem Fr.at_ {k : Int} {c b j : Nat} {wr : World} (h : Fr base w p m L id k e c b j wr) (he : gt L id = some e) (hj : j < 3) :
  (∀ W, Below wr.heap.size wr W → W.cell? ⟨e.g, j * 10 + 8, none⟩ = some (.slice (stx j e.s).od.a (stx j e.s).od.n (stx j e.s).od.c) ∧ W.cell? ⟨c, 0, none⟩ = some (.int .i64 k) ∧ e.g < W.heap.size ∧ c < W.heap.size ∧ RdM 1 W (stx j e.s).od.a (stx j e.s).od.n (stx j e.s).od.c (stx j e.s).od.l) ∧
  wr.cell? ⟨b, j, none⟩ = some (.pointer (some ⟨e.g, j * 10, none⟩)) ∧ b < wr.heap.size := by
 obtain ⟨s', hF, hR⟩ := h.ex
 have hg : gt (st L id ⟨e.g, s'⟩) id = some ⟨e.g, s'⟩ := by rw [gt_st, if_pos rfl, he]; rfl
 refine ⟨fun W hW => ?_, ?_, h.bk.lt⟩
 ·have h1 := hR.pf.on hW
  have h2 : W.cell? ⟨e.g, j * 10 + 8, none⟩ = _ := h1.cell hg
  have h3 : e.g < W.heap.size := (h1.wlt hg (mem_wb.2 (.inl rfl))).2
  rw [pcs_stx hj (by omega)] at h2
  rw [hF.left j hj (Nat.le_refl _), sxc_od] at h2
  have h4 := (h1.stOk hg j).1.od
  rw [hF.left j hj (Nat.le_refl _)] at h4
  have h5 : W.cell? ⟨c, 0, none⟩ = some (.int .i64 k) := (h.ck.on hW).cell 0
  have h6 := (h.ck.on hW).lt
  exact ⟨h2, h5, h3, h6, h4⟩
 ·have hbk := h.bk
  clear hg hF hR h he
  match j, hj with
  | 0, _ => exact hbk.cell 0
  | 1, _ => exact hbk.cell 1
  | 2, _ => exact hbk.cell 2
theorem Fr.mid {k : Int} {c b j : Nat} {wr : World} (h : Fr base w p m L id k e c b j wr) (h0 : Pf base w p m L) (he : gt L id = some e) (hj : j < 3) {W W1 : World} {v : Value} (hb : Below wr.heap.size wr W) (ho : OwZ W W1 v (dr k (un1 (stx j e.s).od.l))) :
  ∃ l : Sl, v = .slice l.a l.n l.c ∧ W1.cell? ⟨e.g, j * 10 + 8, none⟩ = some (.slice (stx j e.s).od.a (stx j e.s).od.n (stx j e.s).od.c) ∧ (∀ i, W1.frozen? ⟨e.g, i, none⟩ = false) ∧ e.g < W1.heap.size ∧
  ∃ W2, W2 = W1.setCell ⟨e.g, j * 10 + 8, none⟩ (.slice l.a l.n l.c) ∧ W2.cell? ⟨e.g, j * 10 + 9, none⟩ = some (.slice (stx j e.s).pl.a (stx j e.s).pl.n (stx j e.s).pl.c) ∧ e.g < W2.heap.size ∧ W2.cell? ⟨c, 0, none⟩ = some (.int .i64 k) ∧
   W2.ownsRow base 46 3 (stx j e.s).pl.v (stx j e.s).pl.n (mcs (stx j e.s).pl.l) ∧ RdM 3 W2 (stx j e.s).pl.a (stx j e.s).pl.n (stx j e.s).pl.c (stx j e.s).pl.l ∧ c ∉ (stx j e.s).pl.bl ∧
   ∀ (W3 : World) (y : Sl), y.l = outL k (stx j e.s).pl.l → RdM 3 W3 y.a y.n y.c y.l → W3.ownsRow base 46 3 y.v y.n (mcs y.l) → (∀ x ∈ y.bl, x ∈ (stx j e.s).pl.bl) → Kp (stx j e.s).pl.bl W2 W3 →
    W3.cell? ⟨e.g, j * 10 + 9, none⟩ = some (.slice (stx j e.s).pl.a (stx j e.s).pl.n (stx j e.s).pl.c) ∧ (∀ i, W3.frozen? ⟨e.g, i, none⟩ = false) ∧ e.g < W3.heap.size ∧ Fr base w p m L id k e c b (j + 1) (W3.setCell ⟨e.g, j * 10 + 9, none⟩ (.slice y.a y.n y.c)) := by
 obtain ⟨s', hF, hR⟩ := h.ex
 have hle := hF.left j hj (Nat.le_refl _)
 have hg : gt (st L id ⟨e.g, s'⟩) id = some ⟨e.g, s'⟩ := by rw [gt_st, if_pos rfl, he]; rfl
 obtain ⟨l, rfl, hl1, hl2, hl3⟩ := sl_of_owz ho
 have hb1 := Below.on hb ho.bel
 have h1 := hR.pf.on hb1
 have c8 : W1.cell? ⟨e.g, j * 10 + 8, none⟩ = _ := h1.cell hg
 rw [pcs_stx hj (by omega)] at c8
 rw [hle, sxc_od] at c8
 have fz1 := h1.fz hg
 have lt1 : e.g < W1.heap.size := (h1.wlt hg (mem_wb.2 (.inl rfl))).2
 refine ⟨l, rfl, c8, fz1, lt1, ?_⟩
 have hR2 := hR.pf.fgOd hg hj hb1 l hl2 (fun y hy _ => Nat.le_trans hb.size (hl3 y hy))
 rw [st_st] at hR2
 obtain ⟨s2, hs2⟩ : ∃ s2, s2 = sux j { stx j s' with od := l } s' := ⟨_, rfl⟩
 have hst : stx j s2 = { stx j s' with od := l } := by rw [hs2, stx_sux]
 simp only at hR2
 rw [← hs2] at hR2
 have hg2 : gt (st L id ⟨e.g, s2⟩) id = some ⟨e.g, s2⟩ := by rw [gt_st, if_pos rfl, he]; rfl
 have hpl : (stx j s2).pl = (stx j e.s).pl := by rw [hst, hle]
 have hce : c ≠ e.g := by
  have := (h0.wlt he (mem_wb.2 (.inl rfl))).2
  have := h.lc
  omega
 have hbe : b ≠ e.g := by
  have := (h0.wlt he (mem_wb.2 (.inl rfl))).2
  have := h.lb
  omega
 have ck2 := (h.ck.on hb1).other hce (j * 10 + 8) (Value.slice l.a l.n l.c)
 have bk2 := (h.bk.on hb1).other hbe (j * 10 + 8) (Value.slice l.a l.n l.c)
 have hplo : ∀ x ∈ (stx j e.s).pl.bl, x < w.heap.size := fun x hx => by
  have ho := h0.stOk he j
  exact (own_blk ho.2 hx).2
 obtain ⟨ok2, ow2⟩ := hR2.pf.stOk hg2 j
 simp only at ok2 ow2
 have rd2 := ok2.pl
 rw [hpl] at ow2 rd2
 have c9 : (W1.setCell ⟨e.g, j * 10 + 8, none⟩ (.slice l.a l.n l.c)).cell? ⟨e.g, j * 10 + 9, none⟩ = _ := hR2.pf.cell hg2
 rw [pcs_stx hj (by omega), hst, hle, sxc_pl] at c9
 have lt2 : e.g < (W1.setCell ⟨e.g, j * 10 + 8, none⟩ (.slice l.a l.n l.c)).heap.size := (hR2.pf.wlt hg2 (mem_wb.2 (.inl rfl))).2
 refine ⟨_, rfl, c9, lt2, ck2.cell 0, ow2, rd2, fun hm => by have := hplo c hm; have := h.lc; omega, fun W3 y hy1 hy2 hy3 hy4 hk3 => ?_⟩
 have hmem : (stx j s2).pl ∈ wos s2 := pl_mem hj s2
 have hge := (hR2.pf.sep id _ hg2).1.g (stx j s2).pl hmem
 rw [hpl] at hge
 simp only at hge
 have hB3 : Bk W3 e.g 113 (pcs s2).toArray := (hR2.pf.bk hg2).kp hk3 hge
 have hR3 := hR2.pf.fgPl hg2 hj (w := W3) (by simp only; rw [hpl]; exact hk3) y hy2 hy3 (fun x hx => by simp only; rw [hpl]; exact hy4 x hx)
 rw [st_st] at hR3
 simp only at hR3
 have c93 : W3.cell? ⟨e.g, j * 10 + 9, none⟩ = _ := hk3.cell c9 hge
 refine ⟨c93, fun i => hB3.fz i, hB3.lt, ?_⟩
 have hs3 : sux j { stx j s2 with pl := y } s2 = sux j { { stx j s' with od := l } with pl := y } s' := by
  rw [hst, hs2]
  match j, hj with
  | 0, _ => rfl
  | 1, _ => rfl
  | 2, _ => rfl
 rw [hs3] at hR3
 refine ⟨⟨_, hF.next hj (w := w) (h0.stOk he j).1.od hl1 hy1, (hR.trans hR2).trans hR3⟩, ?_, ?_, h.lc, h.lb⟩
 ·exact (ck2.kp hk3 (fun hm => by have := hplo c hm; have := h.lc; omega)).other hce _ _
 ·exact (bk2.kp hk3 (fun hm => by have := hplo b hm; have := h.lb; omega)).other hbe _ _
theorem fforget_any (hE : Fe w es) (hB : 16 ≤ base) (h : Pf base w p m L) (he : gt L id = some e) (hL : Few L) (k : Int) :
  Calls Tryz.prog 116 #[.pointer (some ⟨e.g, 0, none⟩), .int .i64 k] w fun e' w' => e' = .returned undef ∧ ∃ s', PfR base w p m L (upd (pab L) id (outS k)) w' (st L id ⟨e.g, s'⟩) ∧ s'.par = e.s.par ∧ s'.syn = e.s.syn := by
 have HE : Hid (∀ c b j wr, Fr base w p m L id k e c b j wr → ∀ W, Below wr.heap.size wr W → Pl W (es.getD 10 ⟨0, 0, none⟩)) := fun c b j wr hF W hW => by
  obtain ⟨s', _, hR⟩ := hF.ex
  exact ((hE.kb (hR.bel h) hB).on hW).pl
 have H := hid h
 have HG := hid he
 have HN : Hid (∀ j, j < 3 → (stx j e.s).od.n ≤ 1000000) := fun j hj => by
  obtain ⟨h1, h2, h3⟩ := hL id e he
  unfold Sx.Len at h1 h2 h3
  match j, hj with
  | 0, _ => show e.s.pe.od.n ≤ 1000000; omega
  | 1, _ => show e.s.ca.od.n ≤ 1000000; omega
  | 2, _ => show e.s.no.od.n ≤ 1000000; omega
 have hlt := (h.wlt he (mem_wb.2 (.inl rfl))).2
 have c1 : w.cell? ⟨e.g, 0, none⟩ = some (.bool e.s.pe.at_) := h.cell he
 clear h he hE hL
 go_enter Tryz.func116, Tryz.ntmps116
 go_upto_region 1 with fail
 go_cut [3, 15, 16, 17] (fun v3 v15 v16 v17 wc => ∃ c b, v3 = .pointer (some ⟨c, 0, none⟩) ∧ v15 = .slice (some ⟨b, 0, none⟩) 3 3 ∧ v16 = .int .i64 3 ∧ v17 = .int .i64 0 ∧ Fr base w p m L id k e c b 0 wc)
 case first =>
  go_region
  go_wp2_with fail
  go_meet
  have hb1 := bel_new w (.cells #[.int .i64 k] 3)
  have hb2 := Below.on (bel_new (w.alloc (.cells #[.int .i64 k] 3)) (.cells #[.pointer (some ⟨e.g, 0, none⟩), .pointer (some ⟨e.g, 10, none⟩), .pointer (some ⟨e.g, 20, none⟩)] 115)) (Below.refl _ _).drew
  have hk2 := (bk_new (w.alloc (.cells #[.int .i64 k] 3)) #[.pointer (some ⟨e.g, 0, none⟩), .pointer (some ⟨e.g, 10, none⟩), .pointer (some ⟨e.g, 20, none⟩)] 115).on (Below.refl _ _).drew
  rw [size_new] at hk2
  have hs : st L id ⟨e.g, e.s⟩ = L := st_self H.out.nd HG.out
  refine ⟨_, _, rfl, rfl, rfl, rfl, ⟨e.s, ⟨⟨rfl, rfl⟩, fun i _ hi => absurd hi (by omega), fun i _ _ => rfl⟩, ?_⟩, (bk_new w _ _).on hb2, hk2, Nat.le_refl _, by omega⟩
  rw [hs]
  exact PfR.refl H.out (Below.on hb1 hb2)
 obtain ⟨c, b, rfl, rfl, rfl, rfl, hF0⟩ := hcut
 have HF0 := hid hF0
 clear hF0 c1 hlt
 go_wp2
 go_loopw [17] (fun v wr => ∃ j : Nat, v = .int .i64 j ∧ j ≤ 3 ∧ Fr base w p m L id k e c b j wr) (fun v _ => 3 - (numOf v).toNat)
 case atStart => exact ⟨0, rfl, by omega, HF0.out⟩
 case round =>
  obtain ⟨j, rfl, hj, hF⟩ := hrel
  have HF := hid hF
  clear hF HF0
  by_cases hgo : j < 3
  ·have e1 : decide ((j : Int) < 3) = true := decide_eq_true (by omega)
   have e2 : (j : Int) < 3 := by omega
   obtain ⟨hA, c1, l1⟩ := HF.out.at_ HG.out hgo
   have HA := hid hA
   have HM := hid (fun W W1 v (hb : Below wr.heap.size wr W) (ho : OwZ W W1 v (dr k (un1 (stx j e.s).od.l))) => HF.out.mid H.out HG.out hgo hb ho)
   have HP := hid (HE.out c b j wr HF.out)
   have hn := HN.out j hgo
   clear hA
   go_upto_region 4 with fail
   refine wp_region_gate_drew (g := 9) (S := RowKit.Below wr.heap.size wr) (by kernel_rfl) ?hh (fun hHeld => ?_)
   case hh => exact ((Below.refl _ _).drew)
   generalize wr.drew = W0 at hHeld ⊢
   try dsimp only at hHeld
   refine wpAnyG_take (i := 0) (v := ?_) rfl (by kernel_rfl) (by kernel_rfl) (by kernel_rfl) (by kernel_rfl) (fun _ _ _ h => h) (Or.inl ⟨by kernel_rfl, ?hy0⟩) (by assumption) ?_
   case hy0 => (intro wI hSw; (try dsimp only at hSw); obtain ⟨t1, t2, t3, t4, -⟩ := HA.out _ hSw; go_simp; try with_reducible rfl)
   try simp only [Act.put, lqA, lqB, lqD, lqE, lqF]
   refine wpAnyG_take (i := 1) (v := ?_) rfl (by kernel_rfl) (by kernel_rfl) (by kernel_rfl) (by kernel_rfl) (fun _ _ _ h => h) (Or.inl ⟨by kernel_rfl, ?hy1⟩) (by assumption) ?_
   case hy1 => (intro wI hSw; (try dsimp only at hSw); obtain ⟨t1, t2, t3, t4, -⟩ := HA.out _ hSw; go_simp; try with_reducible rfl)
   try simp only [Act.put, lqA, lqB, lqC, lqD, lqE, lqF]
   refine wpAnyG_take (i := 2) (v := ?_) rfl (by kernel_rfl) (by kernel_rfl) (by kernel_rfl) (by kernel_rfl) (fun _ _ _ h => h) (Or.inl ⟨by kernel_rfl, ?hy2⟩) (by assumption) ?_
   case hy2 => (intro wI hSw; (try dsimp only at hSw); obtain ⟨t1, t2, t3, t4, -⟩ := HA.out _ hSw; go_simp; try with_reducible rfl)
   try simp only [Act.put, lqA, lqB, lqC, lqD, lqE, lqF]
   refine wpAnyG_take (i := 3) (v := ?_) rfl (by kernel_rfl) (by kernel_rfl) (by kernel_rfl) (by kernel_rfl) (fun _ _ _ h => h) (Or.inl ⟨by kernel_rfl, ?hy3⟩) (by assumption) ?_
   case hy3 => (intro wI hSw; (try dsimp only at hSw); obtain ⟨t1, t2, t3, t4, -⟩ := HA.out _ hSw; go_simp; try with_reducible rfl)
   try simp only [Act.put, lqA, lqB, lqC, lqD, lqE, lqF]
   refine wpAnyG_take (i := 4) (v := ?_) rfl (by kernel_rfl) (by kernel_rfl) (by kernel_rfl) (by kernel_rfl) (fun _ _ _ h => h) (Or.inl ⟨by kernel_rfl, ?hy4⟩) (by assumption) ?_
   case hy4 => (intro wI hSw; (try dsimp only at hSw); obtain ⟨t1, t2, t3, t4, -⟩ := HA.out _ hSw; go_simp; try with_reducible rfl)
   try simp only [Act.put, lqA, lqB, lqC, lqD, lqE, lqF]
   refine wpAnyG_take (i := 5) (v := ?_) rfl (by kernel_rfl) (by kernel_rfl) (by kernel_rfl) (by kernel_rfl) (fun _ _ _ h => h) (Or.inl ⟨by kernel_rfl, ?hy5⟩) (by assumption) ?_
   case hy5 => (intro wI hSw; (try dsimp only at hSw); obtain ⟨t1, t2, t3, t4, -⟩ := HA.out _ hSw; go_simp; try with_reducible rfl)
   try simp only [Act.put, lqA, lqB, lqC, lqD, lqE, lqF]
   refine wpAnyG_ready (rs := [6]) (by kernel_rfl) (by simp) ?_
   refine AllReadyG.cons rfl (fun K hK => ?_) AllReadyG.nil
   go_simp
   go_wp2_with fail
   refine (odrop_any _ _ _ _ k _ _ (HP.out _ hHeld) (rz_of_rdm (HA.out _ hHeld).2.2.2.2) hn).mono ?_
   rintro e' W6 ⟨v6, rfl, ho6⟩
   obtain ⟨l6, rfl, d1, d2, d3, W2, hW2, d5, d6, d7, d8, d9, d10, d11⟩ := HM.out _ _ _ hHeld ho6
   have HW2 := hid hW2
   have HD := hid (And.intro d8 (And.intro d9 (And.intro d10 d11)))
   refine hK.out _ _ (Below.on hHeld ho6.bel) (fun _ => ?_)
   have hH2 := Below.on hHeld ho6.bel
   clear hK K hHeld ho6 hW2 d8 d9 d10 d11
   have hHeld := hH2
   clear hH2
   try simp only [Act.put, lqA, lqB, lqC, lqD, lqE, lqF]
   refine wpAnyG_take (i := 7) (v := ?_) rfl (by kernel_rfl) (by kernel_rfl) (by kernel_rfl) (by kernel_rfl) (fun _ _ _ h => h) (Or.inl ⟨by kernel_rfl, ?hy7⟩) (by assumption) ?_
   case hy7 => (intro wI hSw; (try dsimp only at hSw); obtain ⟨t1, t2, t3, t4, -⟩ := HA.out _ hSw; go_simp; try with_reducible rfl)
   try simp only [Act.put, lqA, lqB, lqC, lqD, lqE, lqF]
   refine wpAnyG_take (i := 8) (v := ?_) rfl (by kernel_rfl) (by kernel_rfl) (by kernel_rfl) (by kernel_rfl) (fun _ _ _ h => h) (Or.inl ⟨by kernel_rfl, ?hy8⟩) (by assumption) ?_
   case hy8 => (intro wI hSw; (try dsimp only at hSw); obtain ⟨t1, t2, t3, t4, -⟩ := HA.out _ hSw; go_simp; try with_reducible rfl)
   try simp only [Act.put, lqA, lqB, lqC, lqD, lqE, lqF]
   have hG := hHeld
   clear hHeld
   have hHeld : True := trivial
   refine wpAnyG_gateOp rfl (by kernel_rfl) (fun K hK => ?_)
   go_simp
   refine hK.out _ _ trivial (fun _ => ?_)
   clear hK K
   try simp only [Act.put, lqA, lqB, lqC, lqD, lqE, lqF]
   refine wpAnyH_done (by kernel_rfl) ?_ _
   rw [← HW2.out]
   clear HW2 d1 d2 d3 hG HA HM HP
   have HCD := hid (cdelete_any (stx j e.s).pl k c W2 HD.out.1 HD.out.2.1 d7 HD.out.2.2.1)
   go_wp2_with fail
   refine HCD.out.mono ?_
   rintro e' W3 ⟨y3, rfl, hy1, hy2, hy3, hy4, hy5⟩
   obtain ⟨f1, f2, f3, f4⟩ := HD.out.2.2.2 W3 y3 hy1 hy2 hy3 hy4 hy5
   have HX := hid f4
   clear f4 hy1 hy2 hy3 hy4 hy5 HCD HD
   go_wp2
   go_roundw
   case rel => exact ⟨j + 1, by go_num, by omega, HX.out⟩
   case measure => simp [numOf]; omega
  ·have e1 : decide ((j : Int) < 3) = false := decide_eq_false (by omega)
   obtain rfl : j = 3 := by omega
   obtain ⟨s', hFg, hR⟩ := HF.out.ex
   have HX : Hid (∃ s', PfR base w p m L (upd (pab L) id (outS k)) wr (st L id ⟨e.g, s'⟩) ∧ s'.par = e.s.par ∧ s'.syn = e.s.syn) := ⟨s', hR.as (pab_upd HG.out (outS k) ⟨e.g, s'⟩ hFg.fin), hFg.par.1, hFg.par.2⟩
   clear hFg hR
   go_wp2
   go_end0
   exact ⟨rfl, HX.out⟩
end
end Go.Proofs.YtkjempffidndeaaGreatDoor
