/- Lemmas that the proof leans on. -/
import Derived.Test.YtkjempffidndeaaGreatDoorB35
namespace Go.Proofs.YtkjempffidndeaaGreatDoor
open Go Go.RowKit
set_option maxRecDepth 100000
section
structure DAt (w0 : World) (q mm : Nat) (F : Fo) (id : Int) (g P : Nat) (s : Sf) (w : World) (Z : List Nat) : Prop where
 lt : g < w.heap.size
 mem : g ∈ Z
 fz : ∀ j, w.frozen? ⟨g, j, none⟩ = false
 idc : w.cell? ⟨g, P, none⟩ = some (.int .i64 id)
 par : w.cell? ⟨g, P + 1, none⟩ = some (.int .i64 s.par)
 syn : w.cell? ⟨g, P + 2, none⟩ = some (.bool s.syn)
 att : ∃ b, w.cell? ⟨g, P + 3, none⟩ = some (.bool b)
 buf : ∃ b, w.cell? ⟨g, P + 3 + 1, none⟩ = some (.int .i64 b)
 dm : ∃ l : Sl, w.cell? ⟨g, P + 3 + 2, none⟩ = some (.slice l.a l.n l.c) ∧ RdM 4 w l.a l.n l.c l.l ∧ l.l = s.pe.dm ∧ (mm ≤ 900 → l.n ≤ 1000)
 fr : ∃ l : Sl, w.cell? ⟨g, P + 3 + 3, none⟩ = some (.slice l.a l.n l.c) ∧ RdM 1 w l.a l.n l.c l.l ∧ l.l = s.pe.fr ∧ (mm ≤ 900 → l.n ≤ 1000)
 inp : ∃ b, w.cell? ⟨g, P + 3 + 4, none⟩ = some (.bool b)
 all : ∃ b, w.cell? ⟨g, P + 3 + 5, none⟩ = some (.bool b)
 rg : ∃ l : Sl, w.cell? ⟨g, P + 3 + 6, none⟩ = some (.slice l.a l.n l.c)
 nf : ∃ l : Sl, w.cell? ⟨g, P + 23 + 3, none⟩ = some (.slice l.a l.n l.c) ∧ RdM 1 w l.a l.n l.c l.l ∧ l.l = s.no.fr ∧ ∀ y, l.a = some y → 0 < l.n → y.block ≠ g ∧ (y.block ∈ Z ∨ y.block < w0.heap.size)
 wsyn : ∀ (u : World) (b : Bool), Below w.heap.size w u → s.par ≠ 0 → Nx (Dq w0 q (mm + 1) (synF F id b)) Z w (u.setCell ⟨g, P + 2, none⟩ (.bool b))
 watt : ∀ (u : World) (z : Int), Below w.heap.size w u → Bt z → Nx (Dq w0 q (mm + 1) (upd F id (attS z))) Z w ((u.setCell ⟨g, P + 3, none⟩ (.bool true)).setCell ⟨g, P + 3 + 1, none⟩ (.int .i64 z))
 wdm : ∀ (u : World) (l : Sl) (r : List Int), Below w.heap.size w u → RdM 4 u l.a l.n l.c l.l → (∀ y, l.a = some y → 0 < l.n → w.heap.size ≤ y.block) → l.l = s.pe.dm ++ [r] → Nx (Dq w0 q (mm + 1) (upd F id (dmgS r))) Z w (u.setCell ⟨g, P + 3 + 2, none⟩ (.slice l.a l.n l.c))
 wfr : ∀ (u : World) (l : Sl) (z : Int), Below w.heap.size w u → RdM 1 u l.a l.n l.c l.l → (∀ y, l.a = some y → 0 < l.n → w.heap.size ≤ y.block) → l.l = s.pe.fr ++ [[z]] → Nx (Dq w0 q (mm + 1) (upd F id (frmS z))) Z w (u.setCell ⟨g, P + 3 + 3, none⟩ (.slice l.a l.n l.c))
 wall : ∀ (u : World) (M : List (List Int)), Below w.heap.size w u → M.length ≤ 20 → Nx (Dq w0 q (mm + 1) (upd F id (inpS true M))) Z w (((u.setCell ⟨g, P + 3 + 4, none⟩ (.bool true)).setCell ⟨g, P + 3 + 5, none⟩ (.bool true)).setCell ⟨g, P + 3 + 6, none⟩ (.slice none 0 0))
 wreg : ∀ (u : World) (l : Sl), Below w.heap.size w u → RdM 4 u l.a l.n l.c l.l → (∀ y, l.a = some y → 0 < l.n → y.block < w0.heap.size) → l.l.length ≤ 20 → Nx (Dq w0 q (mm + 1) (upd F id (inpS false l.l))) Z w ((((u.setCell ⟨g, P + 3 + 4, none⟩ (.bool true)).setCell ⟨g, P + 3 + 5, none⟩ (.bool false)).setCell ⟨g, P + 3 + 6, none⟩ (.slice none 0 0)).setCell ⟨g, P + 3 + 6, none⟩ (.slice l.a l.n l.c))
 wtk : ∀ (u : World), Below w.heap.size w u → Nx (Dq w0 q (mm + 1) (upd F id takS)) Z w (u.setCell ⟨g, P + 23 + 3, none⟩ (.slice none 0 0))
variable {w0 w w' : World} {q mm : Nat} {F G : Fo} {Z : List Nat} {v : Value} {L : Ro}
theorem Dq.s (h : Dq w0 q mm F w Z) (id : Int) : ∃ r, Calls Tryz.prog 26 #[.pointer (some ⟨q, 0, none⟩), .int .i64 id] w (fun e w' => e = .returned (.pointer r) ∧ w' = w) ∧ ((r = none ∧ gt F id = none) ∨ ∃ g P s, r = some ⟨g, P, none⟩ ∧ gt F id = some s ∧ DAt w0 q mm F id g P s w Z) := by
 obtain ⟨g1, g4, hq, v, L, hD, rfl, rfl⟩ := h
 have hc := rs_any hD id
 cases hs : gt L id with
 | none =>
  refine ⟨none, hc.mono fun _ _ ⟨r, h1, h2, h3⟩ => ⟨by rw [h1, h2.no hs], h3⟩, .inl ⟨rfl, by rw [gt_abs, hs]; rfl⟩⟩
 | some s =>
  have hnd : (keys L).Nodup := by rw [← abs_keys]; exact g4.inv.nod
  obtain ⟨i, hi, hah⟩ := at_key hs
  obtain ⟨a, c, _, _, _, _, hat⟩ := hD.val
  obtain ⟨g, _, hg, _⟩ := hat i _ hi
  have hX := hD.cmp
  have fin : ∀ (u : World) (f : Sf → Sf) (s' : Sr) (W : World), Below w.heap.size w u → s'.f = f s.f → Df w0.heap.size (cmp w0.heap.size w L) W q v (L.set i (id, s')) → Kp [g] u W → Fok (mm + 1) (upd (abs L) id f) → Nx (Dq w0 q (mm + 1) (upd (abs L) id f)) (dfl w0.heap.size q v L) w W := fun u f s' W hb hf h1 h2 h3 =>
   dqx g1 hq hD h1 (abs_turn hnd hi hs f s' hf) (kp_q ((kp_of_below hb v.ownBlock.toList).trans h2 (fun b hb _ => by rw [hg]; simpa using hb))) (.inl rfl) h3
  have hok := hD.ok _ (Df.mem hi)
  have hof := hD.off _ (Df.mem hi)
  have hlen : mm ≤ 900 → s.pe.Len 1000 := fun hm => (zs_len (g4.szf id s.f (by rw [gt_abs, hs]; rfl)) hok hm).1
  have hnew : ∀ (u : World) (l : Sl), (∀ y, l.a = some y → 0 < l.n → w.heap.size ≤ y.block) → ∀ P ∈ q :: (v.ownBlock.toList ++ cmp w0.heap.size w L), ∀ y, l.a = some y → 0 < l.n → y.block ≠ P := fun u l hl P hP y hy h0 e => by
   have h1 := hl y hy h0
   have h2 : P < w.heap.size := by
    rw [List.mem_cons, List.mem_append] at hP
    rcases hP with rfl | hP | hP
    ·exact hD.lt
    ·exact (hD.row.lt P (by simpa using hP)).2
    ·exact (mem_cmp.1 hP).1
   omega
  have hold : ∀ (l : Sl), (∀ y, l.a = some y → 0 < l.n → y.block < w0.heap.size) → ∀ P ∈ q :: (v.ownBlock.toList ++ cmp w0.heap.size w L), ∀ y, l.a = some y → 0 < l.n → y.block ≠ P := fun l hl P hP y hy h0 e => by
   have h1 := hl y hy h0
   have h2 : w0.heap.size ≤ P := by
    rw [List.mem_cons, List.mem_append] at hP
    rcases hP with rfl | hP | hP
    ·exact hq
    ·exact (hD.row.lt P (by simpa using hP)).1
    ·exact (mem_cmp.1 hP).2.1
   omega
  refine ⟨some ⟨g, i * 33, none⟩, hc.mono fun _ _ ⟨r, h1, h2, h3⟩ => ⟨?_, h3⟩, .inr ⟨g, i * 33, s.f, rfl, by rw [gt_abs, hs]; rfl, ?_⟩⟩
  ·obtain ⟨g', i', h4, h5, h6⟩ := h2.ys hs
   rw [hg] at h5
   cases h5
   have : i' = i := by
    have hl1 := (List.getElem?_eq_some_iff.1 hi).1
    have hl2 := (List.getElem?_eq_some_iff.1 h6).1
    rcases Nat.lt_or_ge i' i with h7 | h7
    ·exact absurd rfl (hah i' _ h7 h6)
    ·rcases Nat.lt_or_ge i i' with h8 | h8
     ·have k1 : (keys L)[i]? = some id := by rw [keys, List.getElem?_map, hi]; rfl
      have k2 : (keys L)[i']? = some id := by rw [keys, List.getElem?_map, h6]; rfl
      exact (((List.getElem?_inj (by rw [keys, List.length_map]; exact hl1) hnd).1 (by rw [k1, k2]))).symm
     ·omega
   rw [h1, h4, this]
  ·have ca : ∀ {j : Nat}, j < 33 → w.cell? ⟨g, i * 33 + j, none⟩ = (scs (id, s))[j]? := fun hj => hD.at_ hi hg hj
   refine ⟨(hD.glt hg).2, mem_dfl.2 (.inr (.inl hg)), hD.fz hg, ca (j := 0) (by omega), ca (j := 1) (by omega), ca (j := 2) (by omega), ⟨_, ca (j := 3) (by omega)⟩, ⟨_, ca (j := 4) (by omega)⟩, ⟨s.pe.dm, ca (j := 5) (by omega), hok.pe.dm, rfl, fun hm => (hlen hm).1⟩, ⟨s.pe.fr, ca (j := 6) (by omega), hok.pe.fr, rfl, fun hm => (hlen hm).2.1⟩, ⟨_, ca (j := 7) (by omega)⟩, ⟨_, ca (j := 8) (by omega)⟩, ⟨s.pe.rg, ca (j := 9) (by omega)⟩, ⟨s.no.fr, ca (j := 26) (by omega), hok.no.fr, rfl, fun y hy h0 => ⟨(hof g (by simp [hg])).no.fr y hy h0, by
    rcases Nat.lt_or_ge y.block w0.heap.size with h9 | h9
    ·exact .inr h9
    ·refine .inl (mem_dfl.2 (.inr (.inr ⟨Classical.byContradiction fun hn => ?_, h9⟩)))
     exact (not_sbl.1 hn _ (Df.mem hi)).no.fr y hy h0 rfl⟩⟩, fun u b hb hp => ?_, fun u z hb hz => ?_, fun u l r hb hl hn he => ?_, fun u l z hb hl hn he => ?_, fun u M hb hM => ?_, fun u l hb hl ho hM => ?_, fun u hb => ?_⟩
   ·obtain ⟨h1, h2⟩ := (hX.on hb).setSyn hi hg b
    have h3 := fin u (fun t => { t with syn := b }) _ _ hb rfl h1 h2
    have e1 : upd (abs L) id (fun t => { t with syn := b }) = synF (abs L) id b := by
     rw [upd, synF, gt_abs, hs]
     show st (abs L) id _ = if s.f.par = 0 then _ else _
     rw [if_neg hp]
    rw [e1] at h3
    exact h3 (g4.syn id b)
   ·obtain ⟨h1, h2⟩ := (hX.on hb).setAtt hi hg z
    exact fin u _ _ _ hb (attR_f z s) h1 h2 (g4.att id hz)
   ·obtain ⟨h1, h2⟩ := (hX.on hb).setDm hi hg l hl (hnew u l hn)
    exact fin u _ _ _ hb (dmgR_f he) h1 h2 (g4.dmg id r)
   ·obtain ⟨h1, h2⟩ := (hX.on hb).setFr hi hg l hl (hnew u l hn)
    exact fin u _ _ _ hb (frmR_f he) h1 h2 (g4.frm id z)
   ·obtain ⟨h1, h2⟩ := (hX.on hb).setIn hi hg true sl0 (RdM.nil _ _) (fun P _ y hy => by cases hy)
    exact fin u _ _ _ hb (inpR_f (m := M) rfl) h1 h2 (g4.inp id true hM)
   ·obtain ⟨h1, h2⟩ := (hX.on hb).setIn hi hg false sl0 (RdM.nil _ _) (fun P _ y hy => by cases hy)
    have hi2 : (L.set i (id, inpR false sl0 s))[i]? = some (id, inpR false sl0 s) := by rw [List.getElem?_set_self (List.getElem?_eq_some_iff.1 hi).1]
    have hok2 := h1.ok _ (Df.mem hi2)
    have hof2 := h1.off _ (Df.mem hi2)
    have hl2 := hl.kp h2 (fun y hy h0 hm => by
     have := ho y hy h0
     have := (hD.glt hg).1
     simp only [List.mem_singleton] at hm
     omega)
    obtain ⟨h3, h4⟩ := h1.set hi2 hg (j := 9) (by omega) (.slice l.a l.n l.c) (inpR false l s) rfl ⟨⟨hok2.pe.dm, hok2.pe.fr, hl2, hok2.pe.od, hok2.pe.pl⟩, hok2.ca, hok2.no⟩ (fun P hP => ⟨⟨(hof2 P hP).pe.dm, (hof2 P hP).pe.fr, hold l ho P hP, (hof2 P hP).pe.od, (hof2 P hP).pe.pl⟩, (hof2 P hP).ca, (hof2 P hP).no⟩)
    rw [List.set_set] at h3
    exact fin u _ _ _ hb (inpR_f (a := false) (m := l.l) rfl) h3 (h2.trans h4 (fun b hb _ => hb)) (g4.inp id false hM)
   ·obtain ⟨h1, h2⟩ := (hX.on hb).setTak hi hg
    exact fin u _ _ _ hb (takR_f s) h1 h2 (g4.tak id)
end
section
theorem len16 {α : Type} {l : List α} (h : l.length = 16) : ∃ x0 x1 x2 x3 x4 x5 x6 x7 x8 x9 x10 x11 x12 x13 x14 x15, l = [x0, x1, x2, x3, x4, x5, x6, x7, x8, x9, x10, x11, x12, x13, x14, x15] := by
 match l, h with
 | [x0, x1, x2, x3, x4, x5, x6, x7, x8, x9, x10, x11, x12, x13, x14, x15], _ => exact ⟨_, _, _, _, _, _, _, _, _, _, _, _, _, _, _, _, rfl⟩
theorem nodup_at {l : List Addr} (h : l.Nodup) {i j : Nat} {a : Addr} (hi : l[i]? = some a) (hj : l[j]? = some a) : i = j := by
 induction l generalizing i j with
 | nil => simp at hi
 | cons x l ih =>
  rw [List.nodup_cons] at h
  cases i with
  | zero =>
   cases j with
   | zero => rfl
   | succ j =>
    simp only [List.getElem?_cons_zero, List.getElem?_cons_succ, Option.some.injEq] at hi hj
    subst hi
    exact absurd (List.mem_of_getElem? hj) h.1
  | succ i =>
   cases j with
   | zero =>
    simp only [List.getElem?_cons_zero, List.getElem?_cons_succ, Option.some.injEq] at hi hj
    subst hj
    exact absurd (List.mem_of_getElem? hi) h.1
   | succ j =>
    simp only [List.getElem?_cons_succ] at hi hj
    rw [ih h.2 hi hj]
theorem ret_int' {k : IntKind} {a b : Int} (h : a = b) : Ending.returned (.int k a) = .returned (.int k b) := by rw [h]
theorem kind_any (w : World) (es : List Addr) (h : Errs w gerrs es) (k : Nat) (a : Addr) (ha : es[k]? = some a) :
  Calls Tryz.prog 34 #[.iface 183 (.pointer (some a))] w fun e w' => e = .returned (.int .i64 (k + 1 : Nat)) ∧ Below w.heap.size w w' := by
 obtain ⟨x0, x1, x2, x3, x4, x5, x6, x7, x8, x9, x10, x11, x12, x13, x14, x15, rfl⟩ := len16 h.len
 have c0 := (h.each 0 _ _ rfl rfl).1
 have c1 := (h.each 1 _ _ rfl rfl).1
 have c2 := (h.each 2 _ _ rfl rfl).1
 have c3 := (h.each 3 _ _ rfl rfl).1
 have c4 := (h.each 4 _ _ rfl rfl).1
 have c5 := (h.each 5 _ _ rfl rfl).1
 have c6 := (h.each 6 _ _ rfl rfl).1
 have c7 := (h.each 7 _ _ rfl rfl).1
 have c8 := (h.each 8 _ _ rfl rfl).1
 have c9 := (h.each 9 _ _ rfl rfl).1
 have c10 := (h.each 10 _ _ rfl rfl).1
 have c11 := (h.each 11 _ _ rfl rfl).1
 have c12 := (h.each 12 _ _ rfl rfl).1
 have c13 := (h.each 13 _ _ rfl rfl).1
 have c14 := (h.each 14 _ _ rfl rfl).1
 have c15 := (h.each 15 _ _ rfl rfl).1
 have hk : k < 16 := by
  rcases Nat.lt_or_ge k 16 with h' | h'
  ·exact h'
  ·rw [List.getElem?_eq_none (by simpa using h')] at ha; cases ha
 have hbel : Below w.heap.size w (w.alloc (.cells #[.iface 183 (.pointer (some x0)), .iface 183 (.pointer (some x1)), .iface 183 (.pointer (some x2)), .iface 183 (.pointer (some x3)), .iface 183 (.pointer (some x4)), .iface 183 (.pointer (some x5)), .iface 183 (.pointer (some x6)), .iface 183 (.pointer (some x7)), .iface 183 (.pointer (some x8)), .iface 183 (.pointer (some x9)), .iface 183 (.pointer (some x10)), .iface 183 (.pointer (some x11)), .iface 183 (.pointer (some x12)), .iface 183 (.pointer (some x13)), .iface 183 (.pointer (some x14)), .iface 183 (.pointer (some x15))] 127)) := (Below.refl _ _).alloc (Nat.le_refl _) _
 have HB : Hid (Below w.heap.size w (w.alloc (.cells #[.iface 183 (.pointer (some x0)), .iface 183 (.pointer (some x1)), .iface 183 (.pointer (some x2)), .iface 183 (.pointer (some x3)), .iface 183 (.pointer (some x4)), .iface 183 (.pointer (some x5)), .iface 183 (.pointer (some x6)), .iface 183 (.pointer (some x7)), .iface 183 (.pointer (some x8)), .iface 183 (.pointer (some x9)), .iface 183 (.pointer (some x10)), .iface 183 (.pointer (some x11)), .iface 183 (.pointer (some x12)), .iface 183 (.pointer (some x13)), .iface 183 (.pointer (some x14)), .iface 183 (.pointer (some x15))] 127))) := hbel
 have HL : Hid (∀ (j : Nat) (x : Addr), [x0, x1, x2, x3, x4, x5, x6, x7, x8, x9, x10, x11, x12, x13, x14, x15][j]? = some x → (w.alloc (.cells #[.iface 183 (.pointer (some x0)), .iface 183 (.pointer (some x1)), .iface 183 (.pointer (some x2)), .iface 183 (.pointer (some x3)), .iface 183 (.pointer (some x4)), .iface 183 (.pointer (some x5)), .iface 183 (.pointer (some x6)), .iface 183 (.pointer (some x7)), .iface 183 (.pointer (some x8)), .iface 183 (.pointer (some x9)), .iface 183 (.pointer (some x10)), .iface 183 (.pointer (some x11)), .iface 183 (.pointer (some x12)), .iface 183 (.pointer (some x13)), .iface 183 (.pointer (some x14)), .iface 183 (.pointer (some x15))] 127)).cell? ⟨w.heap.size, j, none⟩ = some (.iface 183 (.pointer (some x)))) := by
  intro j x hx
  have e : (#[.iface 183 (.pointer (some x0)), .iface 183 (.pointer (some x1)), .iface 183 (.pointer (some x2)), .iface 183 (.pointer (some x3)), .iface 183 (.pointer (some x4)), .iface 183 (.pointer (some x5)), .iface 183 (.pointer (some x6)), .iface 183 (.pointer (some x7)), .iface 183 (.pointer (some x8)), .iface 183 (.pointer (some x9)), .iface 183 (.pointer (some x10)), .iface 183 (.pointer (some x11)), .iface 183 (.pointer (some x12)), .iface 183 (.pointer (some x13)), .iface 183 (.pointer (some x14)), .iface 183 (.pointer (some x15))] : Array Value)[j]? = some (.iface 183 (.pointer (some x))) := by
   have : ([x0, x1, x2, x3, x4, x5, x6, x7, x8, x9, x10, x11, x12, x13, x14, x15].map fun y => Value.iface 183 (.pointer (some y)))[j]? = some (.iface 183 (.pointer (some x))) := by rw [List.getElem?_map, hx]; rfl
   simpa using this
  rw [World.cell?_alloc_at _ _ _ _ rfl]
  exact e
 clear hbel
 have HE : Hid (Errs w gerrs [x0, x1, x2, x3, x4, x5, x6, x7, x8, x9, x10, x11, x12, x13, x14, x15]) := h
 have HA : Hid ([x0, x1, x2, x3, x4, x5, x6, x7, x8, x9, x10, x11, x12, x13, x14, x15][k]? = some a) := ha
 clear h ha
 go_enter Tryz.func34, Tryz.ntmps34
 go_wp2
 clear c0 c1 c2 c3 c4 c5 c6 c7 c8 c9 c10 c11 c12 c13 c14 c15
 generalize hW : w.alloc (.cells #[.iface 183 (.pointer (some x0)), .iface 183 (.pointer (some x1)), .iface 183 (.pointer (some x2)), .iface 183 (.pointer (some x3)), .iface 183 (.pointer (some x4)), .iface 183 (.pointer (some x5)), .iface 183 (.pointer (some x6)), .iface 183 (.pointer (some x7)), .iface 183 (.pointer (some x8)), .iface 183 (.pointer (some x9)), .iface 183 (.pointer (some x10)), .iface 183 (.pointer (some x11)), .iface 183 (.pointer (some x12)), .iface 183 (.pointer (some x13)), .iface 183 (.pointer (some x14)), .iface 183 (.pointer (some x15))] 127) = W at *
 clear hW
 go_loop [4] (fun i => ∃ j : Nat, j ≤ k ∧ i = .int .i64 j) (fun i => 16 - (RowKit.intOf i).toNat)
 case atStart => exact ⟨0, Nat.zero_le _, rfl⟩
 case round =>
  obtain ⟨j, hj, rfl⟩ := hrel
  obtain ⟨x, hx⟩ : ∃ x, [x0, x1, x2, x3, x4, x5, x6, x7, x8, x9, x10, x11, x12, x13, x14, x15][j]? = some x := ⟨_, List.getElem?_eq_getElem (by simp; omega)⟩
  have hl := HL.out j x hx
  have HX : Hid ([x0, x1, x2, x3, x4, x5, x6, x7, x8, x9, x10, x11, x12, x13, x14, x15][j]? = some x) := hx
  clear hx
  have hj16 : (j : Int) < 16 := by omega
  by_cases he : j = k
  ·subst he
   obtain rfl : x = a := Option.some.inj (HX.out.symm.trans HA.out)
   go_wp2_with (go_at_call 75; refine (is_same x _).mono ?_; rintro e w' ⟨rfl, rfl⟩)
   go_ret
   exact ⟨ret_int' (by omega), HB.out⟩
  ·have hne : a ≠ x := by
    intro hax
    subst hax
    have e1 := HA.out
    have e2 := HX.out
    exact he (nodup_at HE.out.nodup e2 e1)
   obtain ⟨_, ca, ta, ha⟩ := (HE.out.each k _ a (List.getElem?_eq_getElem (by show _ < 16; omega)) HA.out).below HB.out
   obtain ⟨_, cb, tb, hb⟩ := (HE.out.each j _ x (List.getElem?_eq_getElem (by show _ < 16; omega)) HX.out).below HB.out
   have HC : Hid (∀ _ : Unit, Calls Tryz.prog 75 #[.iface 183 (.pointer (some a)), .iface 183 (.pointer (some x))] W fun e w' => e = .returned (.bool false) ∧ w' = W) := fun _ => is_other a x ca cb ta tb W hne ha hb
   clear ha hb hne
   go_wp2_with (go_at_call 75; refine (HC.out ()).mono ?_; rintro e w' ⟨rfl, rfl⟩)
   go_round
   case rel => exact ⟨j + 1, by omega, by go_num⟩
   case measure => simp [RowKit.intOf]; omega
theorem kind_nil (w : World) (es : List Addr) (h : Errs w gerrs es) :
  Calls Tryz.prog 34 #[.nilIface] w fun e w' => e = .returned (.int .i64 0) ∧ Below w.heap.size w w' := by
 obtain ⟨x0, x1, x2, x3, x4, x5, x6, x7, x8, x9, x10, x11, x12, x13, x14, x15, rfl⟩ := len16 h.len
 have c0 := (h.each 0 _ _ rfl rfl).1
 have c1 := (h.each 1 _ _ rfl rfl).1
 have c2 := (h.each 2 _ _ rfl rfl).1
 have c3 := (h.each 3 _ _ rfl rfl).1
 have c4 := (h.each 4 _ _ rfl rfl).1
 have c5 := (h.each 5 _ _ rfl rfl).1
 have c6 := (h.each 6 _ _ rfl rfl).1
 have c7 := (h.each 7 _ _ rfl rfl).1
 have c8 := (h.each 8 _ _ rfl rfl).1
 have c9 := (h.each 9 _ _ rfl rfl).1
 have c10 := (h.each 10 _ _ rfl rfl).1
 have c11 := (h.each 11 _ _ rfl rfl).1
 have c12 := (h.each 12 _ _ rfl rfl).1
 have c13 := (h.each 13 _ _ rfl rfl).1
 have c14 := (h.each 14 _ _ rfl rfl).1
 have c15 := (h.each 15 _ _ rfl rfl).1
 go_enter Tryz.func34, Tryz.ntmps34
 go_wp2
 go_ret
 exact ⟨rfl, (Below.refl _ _).alloc (Nat.le_refl _) _⟩
end
section
def plc (v : Int) (n : Nat) : Nat := (v % n).toNat
theorem plc_lt (v : Int) (n : Nat) (h : 0 < n) : plc v n < n := by
 have h1 := Int.emod_nonneg v (b := (n : Int)) (by omega)
 have h2 := Int.emod_lt_of_pos v (b := (n : Int)) (by omega)
 unfold plc
 omega
theorem ret_plc {k : IntKind} {a b : Int} (h : a = b) : Ending.returned (.int k a) = .returned (.int k b) := by rw [h]
theorem place_any (v : Int) (n : Nat) (_hv : -9223372036854775808 ≤ v ∧ v ≤ 9223372036854775807) (hn : 0 < n) (hn2 : n ≤ 1152921504606846976) (w : World) :
  Calls Tryz.prog 16 #[.int .i64 v, .int .i64 n] w fun e w' => e = .returned (.int .i64 (plc v n : Nat)) ∧ w' = w := by
 have h0 : ¬ ((n : Int) = 0) := by omega
 go_enter Tryz.func16, Tryz.ntmps16
 have hb := Int.emod_nonneg v (b := (n : Int)) (by omega)
 have hb2 := Int.emod_lt_of_pos v (b := (n : Int)) (by omega)
 have HP : Hid (((plc v n : Nat) : Int) = v % n) := by simp only [Hid]; unfold plc; omega
 have HT : Hid (v.tmod n = if 0 ≤ v ∨ (n : Int) ∣ v then v % n else v % n - n) := by
  simp only [Hid]
  rw [Int.tmod_eq_emod]
  split <;> simp
 have ht : -9223372036854775808 ≤ v.tmod n + n ∧ v.tmod n + n ≤ 9223372036854775807 := by rw [HT.out]; split <;> omega
 clear hb hb2
 go_wp2
 all_goals
  go_ret
  refine ⟨ret_plc ?_, rfl⟩
  have hb := Int.emod_nonneg v (b := (n : Int)) (by omega)
  have hb2 := Int.emod_lt_of_pos v (b := (n : Int)) (by omega)
  have h1 := HT.out
  rw [HP.out]
  split at h1 <;> omega
end
section
theorem ng_of {w : World} {es : List Addr} (h : Errs w gerrs es) : 16 ≤ w.heap.size := by
 have hl : es.length = 16 := h.len
 have each : ∀ i g, gerrs[i]? = some g → i < 16 → g < w.heap.size := fun i g hg hi => World.block_lt_of_cell? _ _ (h.each i g _ hg (List.getElem?_eq_getElem (by omega))).1
 have h0 := each 0 _ rfl (by decide)
 have h1 := each 1 _ rfl (by decide)
 have h2 := each 2 _ rfl (by decide)
 have h3 := each 3 _ rfl (by decide)
 have h4 := each 4 _ rfl (by decide)
 have h5 := each 5 _ rfl (by decide)
 have h6 := each 6 _ rfl (by decide)
 have h7 := each 7 _ rfl (by decide)
 have h8 := each 8 _ rfl (by decide)
 have h9 := each 9 _ rfl (by decide)
 have h10 := each 10 _ rfl (by decide)
 have h11 := each 11 _ rfl (by decide)
 have h12 := each 12 _ rfl (by decide)
 have h13 := each 13 _ rfl (by decide)
 have h14 := each 14 _ rfl (by decide)
 have h15 := each 15 _ rfl (by decide)
 omega
theorem kind_of {w : World} {es : List Addr} (hE : Errs w gerrs es) {k : Nat} (hk : k ≤ 16) : Calls Tryz.prog 34 #[erv es k] w fun e w' => e = .returned (.int .i64 (k : Nat)) ∧ Below w.heap.size w w' := by
 have hl : es.length = 16 := hE.len
 cases k with
 | zero => exact kind_nil w es hE
 | succ k =>
  have he : es[k]? = some (es.getD k ⟨0, 0, none⟩) := by rw [List.getD, List.getElem?_eq_getElem (by omega)]; rfl
  exact kind_any w es hE k _ he
end
section
open Go Go.ChangeShapes Go.WideShapes Go.ChangeAt Go.RowKit Go.Deep
variable {H : Type} {enc : TypeId × Value → H} {W : World} {d : DataW H} {p : List MemPlace}
theorem open_numsM {T E : TypeId} {fs : Array Field} {m : Nat} (hm : 0 < m) (hT : Tryz.prog.underlying T = some (.slice E)) (ht : Tryz.prog.underlying E = some (.struct fs)) (hm0 : fs.size = m) (hc : Tryz.prog.cellsOf E = m) (hf : numsB Tryz.prog fs = true) {k : Nat} {c : Value} {x : DataW H × List MemPlace} (h : DataW.trod enc Tryz.prog W 0 (fun _ => true) true k T [c] = some x) : ∃ s : Sl, c = .slice s.a s.n s.c ∧ RdM m W s.a s.n s.c s.l := by
 have key : ∀ a n c', c = .slice a n c' → ∃ s : Sl, c = .slice s.a s.n s.c ∧ RdM m W s.a s.n s.c s.l := fun a n c' e => by
  subst e
  obtain ⟨l, hl⟩ := open_structs (m := m) (P := Tryz.prog) (W := W) (enc := enc) (T := T) (E := E) hT ht hm0 hc hf (a := a) (n := n) (c := c') (d := x.1) (p := x.2) ⟨k, by rw [show (x.1, x.2) = x from rfl]; exact h⟩
  exact ⟨⟨a, n, c', l⟩, rfl, rdm_of_rdn hm hl⟩
 rcases open_slice hT h with ⟨hcs, _⟩ | ⟨a, len, cap, mm, k', D, Pl, hcs, _⟩
 ·simp only [List.cons.injEq, and_true] at hcs
  exact key _ _ _ hcs
 ·simp only [List.cons.injEq, and_true] at hcs
  exact key _ _ _ hcs
end
section
open Go Go.ChangeShapes Go.WideShapes Go.ChangeAt Go.RowKit Go.Deep
structure Oq where
 k : Int
 id : Int
 a : Int
 b : Int
 x : Int
 y : Int
 w : Int
 h : Int
 l : Sl
structure Oq.Ok (W : World) (o : Oq) : Prop where
 k : (-9223372036854775808 ≤ o.k ∧ o.k ≤ 9223372036854775807)
 id : (-9223372036854775808 ≤ o.id ∧ o.id ≤ 9223372036854775807)
 a : (-9223372036854775808 ≤ o.a ∧ o.a ≤ 9223372036854775807)
 b : (-9223372036854775808 ≤ o.b ∧ o.b ≤ 9223372036854775807)
 x : (-9223372036854775808 ≤ o.x ∧ o.x ≤ 9223372036854775807)
 y : (-9223372036854775808 ≤ o.y ∧ o.y ≤ 9223372036854775807)
 w_ : (-9223372036854775808 ≤ o.w ∧ o.w ≤ 9223372036854775807)
 h : (-9223372036854775808 ≤ o.h ∧ o.h ≤ 9223372036854775807)
 l : RdM 4 W o.l.a o.l.n o.l.c o.l.l
def oqc (o : Oq) : List Value := [.int .i64 o.k, .int .i64 o.id, .int .i64 o.a, .int .i64 o.b, .int .i64 o.x, .int .i64 o.y, .int .i64 o.w, .int .i64 o.h, .slice o.l.a o.l.n o.l.c]
structure RdQ (w : World) (a : Option Addr) (n c : Nat) : Prop where
 le : n ≤ c
 max : c ≤ maxLen
 each : ∀ j, j < n → ∃ b off o, a = some ⟨b, off, none⟩ ∧ b < w.heap.size ∧ (∀ i, i < 9 → w.cell? ⟨b, off + j * 9 + i, none⟩ = (oqc o)[i]?) ∧ o.Ok w
theorem i64_rangeQ {n : Int} (h : (Lit.int .i64 n).wf = true) : -9223372036854775808 ≤ n ∧ n ≤ 9223372036854775807 := by
 simpa [Lit.wf, IntKind.min, IntKind.max, IntKind.signed, IntKind.bits] using h
theorem cellsOq : Tryz.prog.cellsOf 57 = 9 := by kernel_rfl
theorem cellsRc : Tryz.prog.cellsOf 54 = 4 := by kernel_rfl
variable {H : Type} {enc : TypeId × Value → H} {W : World} {d : DataW H} {p : List MemPlace}
theorem open_oq {n : Nat} {cs : List Value} {x : DataW H × List MemPlace} (h : DataW.trod enc Tryz.prog W 0 (fun _ => true) true n 57 cs = some x) : ∃ o : Oq, cs = oqc o ∧ o.Ok W := by
 obtain ⟨xs, k, _, _, hl, hlen, hx⟩ := DataW.trod_struct Tryz.underlying57 h
 rw [cellsOq] at hl
 match cs, hl, xs, hlen with
 | [c0, c1, c2, c3, c4, c5, c6, c7, c8], _, [x0, x1, x2, x3, x4, x5], _ =>
  have h0 : DataW.trod enc Tryz.prog W 0 (fun _ => true) true k 3 (([c0, c1, c2, c3, c4, c5, c6, c7, c8].drop 0).take (Tryz.prog.cellsOf 3)) = some x0 := hx 0 _ rfl
  have h1 : DataW.trod enc Tryz.prog W 0 (fun _ => true) true k 3 (([c0, c1, c2, c3, c4, c5, c6, c7, c8].drop 1).take (Tryz.prog.cellsOf 3)) = some x1 := hx 1 _ rfl
  have h2 : DataW.trod enc Tryz.prog W 0 (fun _ => true) true k 3 (([c0, c1, c2, c3, c4, c5, c6, c7, c8].drop 2).take (Tryz.prog.cellsOf 3)) = some x2 := hx 2 _ rfl
  have h3 : DataW.trod enc Tryz.prog W 0 (fun _ => true) true k 3 (([c0, c1, c2, c3, c4, c5, c6, c7, c8].drop 3).take (Tryz.prog.cellsOf 3)) = some x3 := hx 3 _ rfl
  have h4 : DataW.trod enc Tryz.prog W 0 (fun _ => true) true k 54 (([c0, c1, c2, c3, c4, c5, c6, c7, c8].drop 4).take (Tryz.prog.cellsOf 54)) = some x4 := hx 4 _ rfl
  have h5 : DataW.trod enc Tryz.prog W 0 (fun _ => true) true k 55 (([c0, c1, c2, c3, c4, c5, c6, c7, c8].drop 8).take (Tryz.prog.cellsOf 55)) = some x5 := hx 5 _ rfl
  have k0 : Tryz.prog.cellsOf 3 = 1 := by kernel_rfl
  have k2 : Tryz.prog.cellsOf 55 = 1 := by kernel_rfl
  simp only [k0, k2, cellsRc, List.drop_zero, List.drop_succ_cons, List.take_succ_cons, List.take_zero] at h0 h1 h2 h3 h4 h5
  obtain ⟨ys, k', _, _, hl', hlen', hy⟩ := DataW.trod_struct Tryz.underlying54 h4
  match ys, hlen' with
  | [y0, y1, y2, y3], _ =>
   have g0 : DataW.trod enc Tryz.prog W 0 (fun _ => true) true k' 3 (([c4, c5, c6, c7].drop 0).take (Tryz.prog.cellsOf 3)) = some y0 := hy 0 _ rfl
   have g1 : DataW.trod enc Tryz.prog W 0 (fun _ => true) true k' 3 (([c4, c5, c6, c7].drop 1).take (Tryz.prog.cellsOf 3)) = some y1 := hy 1 _ rfl
   have g2 : DataW.trod enc Tryz.prog W 0 (fun _ => true) true k' 3 (([c4, c5, c6, c7].drop 2).take (Tryz.prog.cellsOf 3)) = some y2 := hy 2 _ rfl
   have g3 : DataW.trod enc Tryz.prog W 0 (fun _ => true) true k' 3 (([c4, c5, c6, c7].drop 3).take (Tryz.prog.cellsOf 3)) = some y3 := hy 3 _ rfl
   simp only [k0, List.drop_zero, List.drop_succ_cons, List.take_succ_cons, List.take_zero] at g0 g1 g2 g3
   obtain ⟨a0, e0, _, w0⟩ := DataW.trod_int Tryz.underlying3 h0
   obtain ⟨a1, e1, _, w1⟩ := DataW.trod_int Tryz.underlying3 h1
   obtain ⟨a2, e2, _, w2⟩ := DataW.trod_int Tryz.underlying3 h2
   obtain ⟨a3, e3, _, w3⟩ := DataW.trod_int Tryz.underlying3 h3
   obtain ⟨b0, f0, _, v0⟩ := DataW.trod_int Tryz.underlying3 g0
   obtain ⟨b1, f1, _, v1⟩ := DataW.trod_int Tryz.underlying3 g1
   obtain ⟨b2, f2, _, v2⟩ := DataW.trod_int Tryz.underlying3 g2
   obtain ⟨b3, f3, _, v3⟩ := DataW.trod_int Tryz.underlying3 g3
   simp only [List.cons.injEq, and_true] at e0 e1 e2 e3 f0 f1 f2 f3
   subst e0 e1 e2 e3 f0 f1 f2 f3
   obtain ⟨s, rfl, r⟩ := open_numsM (m := 4) (by decide) Tryz.underlying55 Tryz.underlying54 rfl (by kernel_rfl) (by kernel_rfl) h5
   exact ⟨⟨a0, a1, a2, a3, b0, b1, b2, b3, s⟩, rfl, ⟨i64_rangeQ w0, i64_rangeQ w1, i64_rangeQ w2, i64_rangeQ w3, i64_rangeQ v0, i64_rangeQ v1, i64_rangeQ v2, i64_rangeQ v3, r⟩⟩
theorem open_ops {a : Option Addr} {n c : Nat} (h : DataW.Trod enc Tryz.prog W 0 (fun _ => true) true 22 (.slice a n c) d p) : RdQ W a n c := by
 obtain ⟨fuel, hf⟩ := h
 rcases open_slice Tryz.underlying22 hf with ⟨hcs, _⟩ | ⟨a, len, cap, mm, k, D, Pl, hcs, hb, hl, hm, hmm, _, hx⟩
 ·simp [Value.cells] at hcs
  obtain ⟨rfl, rfl, rfl⟩ := hcs
  exact ⟨Nat.le_refl _, Nat.zero_le _, fun j hj => by omega⟩
 ·simp [Value.cells] at hcs
  obtain ⟨rfl, rfl, rfl⟩ := hcs
  simp only [if_true] at hmm
  subst hmm
  rw [cellsOq] at hx
  refine ⟨hl, hm, fun j hj => ?_⟩
  obtain ⟨cs', h1, h2⟩ := hx j (by omega)
  obtain ⟨o, rfl, hok⟩ := open_oq h2
  obtain ⟨_, _, hcc⟩ := World.cells?_some h1
  obtain ⟨b, off, spot⟩ := a
  have hspot : spot = none := by
   obtain ⟨cs0, h10, h20⟩ := hx 0 (by omega)
   obtain ⟨o0, rfl, _⟩ := open_oq h20
   obtain ⟨_, _, hc0⟩ := World.cells?_some h10
   have z0 := hc0 0 (by omega)
   simp only [oqc, List.getElem?_cons_zero] at z0
   simpa [Addr.add] using World.cell?_spot z0
  subst hspot
  have q0 : W.cell? ⟨b, off + j * 9 + 0, none⟩ = (oqc o)[0]? := by simpa only [add_plain] using hcc 0 (by omega)
  exact ⟨b, off, o, rfl, World.block_lt_of_cell? W _ q0, fun i hi => by simpa only [add_plain] using hcc i hi, hok⟩
end
end Go.Proofs.YtkjempffidndeaaGreatDoor
