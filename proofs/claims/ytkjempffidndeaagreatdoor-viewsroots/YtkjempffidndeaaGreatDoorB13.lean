/- Lemmas that the proof leans on. -/
import Derived.Test.YtkjempffidndeaaGreatDoorB12
import Derived.Test.YtkjempffidndeaaGreatDoorRows
import Derived.Stop.Asserts
import Derived.Stop.LaidTwo
import Derived.LaidMore
namespace Go.Proofs.YtkjempffidndeaaGreatDoor
open Go Go.RowKit
section
structure Ps where
 g : Nat
 s : Sr
abbrev Po := List (Int × Ps)
def pab (L : Po) : Fo := L.map fun e => (e.1, e.2.s.f)
theorem pab_keys (L : Po) : keys (pab L) = keys L := by simp [pab, keys]
theorem pab_length (L : Po) : (pab L).length = L.length := by simp [pab]
theorem gt_pab (L : Po) (x : Int) : gt (pab L) x = (gt L x).map fun e => e.s.f := by
 induction L with
 | nil => rfl
 | cons e L ih =>
  rw [pab, List.map_cons, gt, gt]
  split
  ·rfl
  ·exact ih
theorem pab_st (L : Po) (id : Int) (e : Ps) : pab (st L id e) = st (pab L) id e.s.f := by
 rw [pab, st, st, pab, List.map_map, List.map_map]
 refine List.map_congr_left fun e _ => ?_
 simp only [Function.comp]
 split <;> rfl
theorem pab_upd {L : Po} {id : Int} {e : Ps} (hs : gt L id = some e) (f : Sf → Sf) (e' : Ps) (h : e'.s.f = f e.s.f) : pab (st L id e') = upd (pab L) id f := by
 rw [pab_st, upd, gt_pab, hs, h]
 rfl
def pmp (L : Po) : List (Int × Option Nat) := L.map fun e => (e.1, some e.2.g)
theorem pmp_keys (L : Po) : keys (pmp L) = keys L := by simp [pmp, keys]
theorem pmp_length (L : Po) : (pmp L).length = L.length := by simp [pmp]
theorem gt_pmp (L : Po) (x : Int) : gt (pmp L) x = (gt L x).map fun e => some e.g := by
 induction L with
 | nil => rfl
 | cons e L ih =>
  rw [pmp, List.map_cons, gt, gt]
  split
  ·rfl
  ·exact ih
theorem gt_of_mem {α : Type} {l : List (Int × α)} (hn : (keys l).Nodup) {x : Int × α} (hx : x ∈ l) : gt l x.1 = some x.2 := by
 induction l with
 | nil => cases hx
 | cons e l ih =>
  rw [keys, List.map_cons, List.nodup_cons] at hn
  rw [gt]
  rcases List.mem_cons.1 hx with rfl | hx
  ·rw [if_pos rfl]
  ·rw [if_neg (fun he => hn.1 (by rw [he]; exact List.mem_map_of_mem (f := fun e : Int × α => e.1) hx))]
   exact ih hn.2 hx
theorem pmp_st {L : Po} {id : Int} {e e' : Ps} (hn : (keys L).Nodup) (hs : gt L id = some e) (hg : e'.g = e.g) : pmp (st L id e') = pmp L := by
 rw [pmp, pmp, st, List.map_map]
 refine List.map_congr_left fun x hx => ?_
 simp only [Function.comp]
 split
 ·rename_i h
  have : gt L x.1 = some x.2 := gt_of_mem hn hx
  rw [h, hs] at this
  cases this
  rw [← h, hg]
 ·rfl
def ptv : Option Nat → Value
 | none => .pointer none
 | some g => .pointer (some ⟨g, 0, none⟩)
def ptd : Option Nat → DataW Unit
 | none => .nil
 | some g => .agg [.lit (.int .i64 g)]
def ptR : Value → Option (DataW Unit × List MemPlace)
 | .pointer none => some (.nil, [])
 | .pointer (some ⟨g, 0, none⟩) => some (.agg [.lit (.int .i64 g)], [])
 | _ => none
theorem ptR_mk (q : Option Nat) : ptR (ptv q) = some (ptd q, []) := by
 cases q with
 | none => rfl
 | some q => simp [ptR, ptv, ptd]
theorem ptR_inv {x : Value} {q : Option Nat} {ps : List MemPlace} (h : ptR x = some (ptd q, ps)) : x = ptv q := by
 unfold ptR at h
 split at h
 ·cases q with
  | none => rfl
  | some q => simp [ptd] at h
 ·rename_i g
  cases q with
  | none => simp [ptd] at h
  | some q =>
   simp only [ptd, Option.some.injEq, Prod.mk.injEq, DataW.agg.injEq, List.cons.injEq, DataW.lit.injEq, Lit.int.injEq, true_and, and_true] at h
   have e1 : g = q := by omega
   rw [e1]
   rfl
 ·cases h
def pcs (s : Sr) : List Value := sxc s.pe ++ (sxc s.ca ++ (sxc s.no ++ [.int .i64 s.par, .bool s.syn]))
def Sl.v (x : Sl) : Value := .slice x.a x.n x.c
def Sl.bl (x : Sl) : List Nat := x.v.ownBlock.toList
def Sl.Frb (x : Sl) (P : Nat) : Prop := ∀ y, x.a = some y → 0 < x.n → y.block ≠ P
def wos (s : Sr) : List Sl := [s.pe.dm, s.pe.fr, s.pe.pl, s.ca.pl, s.no.pl]
def ros (s : Sr) : List Sl := [s.pe.rg, s.pe.od, s.ca.dm, s.ca.fr, s.ca.rg, s.ca.od, s.no.dm, s.no.fr, s.no.rg, s.no.od]
def wb (e : Ps) : List Nat := e.g :: (wos e.s).flatMap Sl.bl
structure Sr.Own (base : Nat) (w : World) (s : Sr) : Prop where
 ok : s.Ok w
 dm : w.ownsRow base 54 4 s.pe.dm.v s.pe.dm.n (mcs s.pe.dm.l)
 fr : w.ownsRow base 3 1 s.pe.fr.v s.pe.fr.n (mcs s.pe.fr.l)
 pp : w.ownsRow base 46 3 s.pe.pl.v s.pe.pl.n (mcs s.pe.pl.l)
 cp : w.ownsRow base 46 3 s.ca.pl.v s.ca.pl.n (mcs s.ca.pl.l)
 np : w.ownsRow base 46 3 s.no.pl.v s.no.pl.n (mcs s.no.pl.l)
theorem bl_mem {x : Sl} {b : Nat} : b ∈ x.bl ↔ x.v.ownBlock = some b := by simp [Sl.bl]
theorem bl_of {x : Sl} {b : Nat} : b ∈ x.bl ↔ ∃ y, x.a = some y ∧ y.block = b := by
 rw [bl_mem, Sl.v]
 cases h : x.a with
 | none => simp [Value.ownBlock]
 | some y => simp [Value.ownBlock]
theorem mem_wb {e : Ps} {b : Nat} : b ∈ wb e ↔ b = e.g ∨ ∃ x ∈ wos e.s, b ∈ x.bl := by
 rw [wb, List.mem_cons, List.mem_flatMap]
theorem own_blk {w : World} {base T m : Nat} {x : Sl} (h : w.ownsRow base T m x.v x.n (mcs x.l)) {b : Nat} (hb : b ∈ x.bl) : base ≤ b ∧ b < w.heap.size := h.lt b (bl_mem.1 hb)
theorem own_far {w w' : World} {base T m : Nat} {x : Sl} (h : w.ownsRow base T m x.v x.n (mcs x.l)) {X : List Nat} (hk : Kp X w w') (hX : ∀ b ∈ x.bl, b ∉ X) : w'.ownsRow base T m x.v x.n (mcs x.l) :=
 hk.row h (fun k hk => hX k (bl_mem.2 hk))
theorem rd_far {w w' : World} {m : Nat} {x : Sl} (h : RdM m w x.a x.n x.c x.l) {X : List Nat} (hk : Kp X w w') (hX : ∀ b ∈ X, x.Frb b) : RdM m w' x.a x.n x.c x.l :=
 h.kp hk (fun y e n hm => hX _ hm y e n rfl)
theorem rd_farw {w w' : World} {m : Nat} {x : Sl} (h : RdM m w x.a x.n x.c x.l) {X : List Nat} (hk : Kp X w w') (hX : ∀ b ∈ x.bl, b ∉ X) : RdM m w' x.a x.n x.c x.l :=
 h.kp hk (fun y e _ hm => hX _ (bl_of.2 ⟨y, e, rfl⟩) hm)
theorem far_old {w : World} {m : Nat} {x : Sl} (h : RdM m w x.a x.n x.c x.l) {b : Nat} (hb : w.heap.size ≤ b) : x.Frb b := rdm_off h hb
theorem Sr.Own.kp0 {base : Nat} {w w' : World} {s : Sr} (h : s.Own base w) {X : List Nat} (hk : Kp X w w') (hw : ∀ x ∈ wos s, ∀ b ∈ x.bl, b ∉ X) (hR : ∀ z ∈ ros s, ∀ b ∈ X, z.Frb b) : s.Own base w' := by
 refine ⟨⟨⟨?_, ?_, ?_, ?_, ?_⟩, ⟨?_, ?_, ?_, ?_, ?_⟩, ⟨?_, ?_, ?_, ?_, ?_⟩⟩, ?_, ?_, ?_, ?_, ?_⟩
 ·exact rd_farw h.ok.pe.dm hk (hw _ (by simp [wos]))
 ·exact rd_farw h.ok.pe.fr hk (hw _ (by simp [wos]))
 ·exact rd_far h.ok.pe.rg hk (hR _ (by simp [ros]))
 ·exact rd_far h.ok.pe.od hk (hR _ (by simp [ros]))
 ·exact rd_farw h.ok.pe.pl hk (hw _ (by simp [wos]))
 ·exact rd_far h.ok.ca.dm hk (hR _ (by simp [ros]))
 ·exact rd_far h.ok.ca.fr hk (hR _ (by simp [ros]))
 ·exact rd_far h.ok.ca.rg hk (hR _ (by simp [ros]))
 ·exact rd_far h.ok.ca.od hk (hR _ (by simp [ros]))
 ·exact rd_farw h.ok.ca.pl hk (hw _ (by simp [wos]))
 ·exact rd_far h.ok.no.dm hk (hR _ (by simp [ros]))
 ·exact rd_far h.ok.no.fr hk (hR _ (by simp [ros]))
 ·exact rd_far h.ok.no.rg hk (hR _ (by simp [ros]))
 ·exact rd_far h.ok.no.od hk (hR _ (by simp [ros]))
 ·exact rd_farw h.ok.no.pl hk (hw _ (by simp [wos]))
 ·exact own_far h.dm hk (hw _ (by simp [wos]))
 ·exact own_far h.fr hk (hw _ (by simp [wos]))
 ·exact own_far h.pp hk (hw _ (by simp [wos]))
 ·exact own_far h.cp hk (hw _ (by simp [wos]))
 ·exact own_far h.np hk (hw _ (by simp [wos]))
theorem Sr.Own.kp {base : Nat} {w w' : World} {e : Ps} (h : e.s.Own base w) {X : List Nat} (hk : Kp X w w') (hX : ∀ b ∈ wb e, b ∉ X) (hR : ∀ z ∈ ros e.s, ∀ b ∈ X, z.Frb b) : e.s.Own base w' :=
 h.kp0 hk (fun x hx b hb => hX b (mem_wb.2 (.inr ⟨x, hx, hb⟩))) hR
theorem Sr.Own.ros {base : Nat} {w : World} {s : Sr} (h : s.Own base w) {z : Sl} (hz : z ∈ ros s) {b : Nat} (hb : w.heap.size ≤ b) : z.Frb b := by
 simp only [Proofs.YtkjempffidndeaaGreatDoor.ros, List.mem_cons, List.not_mem_nil, or_false] at hz
 rcases hz with rfl | rfl | rfl | rfl | rfl | rfl | rfl | rfl | rfl | rfl
 ·exact far_old h.ok.pe.rg hb
 ·exact far_old h.ok.pe.od hb
 ·exact far_old h.ok.ca.dm hb
 ·exact far_old h.ok.ca.fr hb
 ·exact far_old h.ok.ca.rg hb
 ·exact far_old h.ok.ca.od hb
 ·exact far_old h.ok.no.dm hb
 ·exact far_old h.ok.no.fr hb
 ·exact far_old h.ok.no.rg hb
 ·exact far_old h.ok.no.od hb
theorem Sr.Own.wos {base : Nat} {w : World} {s : Sr} (h : s.Own base w) {z : Sl} (hz : z ∈ wos s) {b : Nat} (hb : b ∈ z.bl) : base ≤ b ∧ b < w.heap.size := by
 simp only [Proofs.YtkjempffidndeaaGreatDoor.wos, List.mem_cons, List.not_mem_nil, or_false] at hz
 rcases hz with rfl | rfl | rfl | rfl | rfl
 ·exact own_blk h.dm hb
 ·exact own_blk h.fr hb
 ·exact own_blk h.pp hb
 ·exact own_blk h.cp hb
 ·exact own_blk h.np hb
structure Sep (e : Ps) : Prop where
 g : ∀ x ∈ wos e.s, e.g ∉ x.bl
 two : ∀ (i j : Nat) x y b, (wos e.s)[i]? = some x → (wos e.s)[j]? = some y → b ∈ x.bl → b ∈ y.bl → i = j
structure Pf (base : Nat) (w : World) (p m : Nat) (L : Po) : Prop where
 lop : base ≤ p
 lom : base ≤ m
 ne : p ≠ m
 obj : w.heap[p]? = some (.cells #[.map (some m)] 97 (0, 0))
 own : ∃ D, w.ownsMap Tryz.prog 3 ptR m L.length D ∧ Rp ptd none D (pmp L)
 nd : (keys L).Nodup
 srf : ∀ x e, gt L x = some e → w.heap[e.g]? = some (.cells (pcs e.s).toArray 113 (0, 0))
 rows : ∀ x e, gt L x = some e → e.s.Own base w
 sep : ∀ x e, gt L x = some e → Sep e ∧ ∀ b ∈ wb e, base ≤ b ∧ b ≠ p ∧ b ≠ m ∧ ∀ z ∈ ros e.s, z.Frb b
 sep2 : ∀ x y e e', gt L x = some e → gt L y = some e' → x ≠ y → ∀ b ∈ wb e, b ∉ wb e' ∧ ∀ z ∈ ros e'.s, z.Frb b
 far : ∀ x e, gt L x = some e → ∀ z ∈ ros e.s, z.Frb p ∧ z.Frb m
theorem pown_kp {R : Value → Option (DataW Unit × List MemPlace)} {X : List Nat} {w w' : World} {b n : Nat} {D : DataW Unit} (h : w.ownsMap Tryz.prog 3 R b n D) (hk : Kp X w w') (hX : b ∉ X) : w'.ownsMap Tryz.prog 3 R b n D := by
 obtain ⟨es, clock, hb, F, hs, hD⟩ := h
 exact ⟨es, clock, hk.var hb hX, F, hs, hD⟩
variable {base : Nat} {w w' : World} {p m : Nat} {L : Po}
def wbs (L : Po) : List Nat := L.flatMap fun e => wb e.2
theorem mem_wbs (hn : (keys L).Nodup) {b : Nat} : b ∈ wbs L ↔ ∃ x e, gt L x = some e ∧ b ∈ wb e := by
 rw [wbs, List.mem_flatMap]
 constructor
 ·rintro ⟨e, he, hb⟩
  exact ⟨e.1, e.2, gt_of_mem hn he, hb⟩
 ·rintro ⟨x, e, he, hb⟩
  exact ⟨(x, e), gt_mem he, hb⟩
theorem Pf.lt (h : Pf base w p m L) : p < w.heap.size ∧ m < w.heap.size := by
 obtain ⟨D, h1, _⟩ := h.own
 exact ⟨(Array.getElem?_eq_some_iff.1 h.obj).1, h1.lt⟩
theorem Pf.wlt (h : Pf base w p m L) {x : Int} {e : Ps} (he : gt L x = some e) {b : Nat} (hb : b ∈ wb e) : base ≤ b ∧ b < w.heap.size := by
 refine ⟨((h.sep x e he).2 b hb).1, ?_⟩
 rcases mem_wb.1 hb with rfl | ⟨z, hz, hb⟩
 ·exact (Array.getElem?_eq_some_iff.1 (h.srf x e he)).1
 ·exact ((h.rows x e he).wos hz hb).2
theorem Pf.kept (h : Pf base w p m L) {X : List Nat} (hk : Kp X w w') (hp : p ∉ X) (hm : m ∉ X) (hw : ∀ x e, gt L x = some e → (∀ b ∈ wb e, b ∉ X) ∧ ∀ z ∈ ros e.s, ∀ b ∈ X, z.Frb b) : Pf base w' p m L := by
 obtain ⟨D, h1, h2⟩ := h.own
 exact ⟨h.lop, h.lom, h.ne, hk.var h.obj hp, ⟨D, pown_kp h1 hk hm, h2⟩, h.nd, fun x e he => hk.var (h.srf x e he) ((hw x e he).1 e.g (mem_wb.2 (.inl rfl))), fun x e he => (h.rows x e he).kp hk (hw x e he).1 (hw x e he).2, h.sep, h.sep2, h.far⟩
theorem Pf.on (h : Pf base w p m L) (hb : Below w.heap.size w w') : Pf base w' p m L := h.kept (kp_of_below hb []) (by simp) (by simp) (fun _ _ _ => ⟨by simp, by simp⟩)
theorem Pf.c0 (h : Pf base w p m L) : w.cell? ⟨p, 0, none⟩ = some (.map (some m)) := by rw [Lib.cell_of_heap h.obj]; rfl
theorem Pf.cell (h : Pf base w p m L) {x : Int} {e : Ps} (he : gt L x = some e) {j : Nat} : w.cell? ⟨e.g, j, none⟩ = (pcs e.s)[j]? := by
 rw [cell_of_row w e.g j _ _ _ (h.srf x e he)]
 simp
theorem Pf.fz (h : Pf base w p m L) {x : Int} {e : Ps} (he : gt L x = some e) (j : Nat) : w.frozen? ⟨e.g, j, none⟩ = false := by
 simp [World.frozen?, h.srf x e he]
theorem Pf.turn (h : Pf base w p m L) {id : Int} {e : Ps} (he : gt L id = some e) {X : List Nat} (hk : Kp X w w') (hX : ∀ b ∈ X, b ∈ wb e) (s' : Sr)
  (hobj : w'.heap[e.g]? = some (.cells (pcs s').toArray 113 (0, 0))) (hown : s'.Own base w')
  (hnd : Sep ⟨e.g, s'⟩) (hw : ∀ b ∈ wb ⟨e.g, s'⟩, b ∈ wb e ∨ w.heap.size ≤ b)
  (hr : ∀ z ∈ ros s', (∀ b ∈ wb ⟨e.g, s'⟩, z.Frb b) ∧ (z ∈ ros e.s ∨ ∀ b, b < w.heap.size → z.Frb b)) : Pf base w' p m (st L id ⟨e.g, s'⟩) := by
 obtain ⟨hlp, hlm⟩ := h.lt
 have hbp : ∀ b ∈ X, b ≠ p ∧ b ≠ m := fun b hx => ⟨((h.sep id e he).2 b (hX b hx)).2.1, ((h.sep id e he).2 b (hX b hx)).2.2.1⟩
 have hgt : ∀ x e', gt (st L id ⟨e.g, s'⟩) x = some e' → (x = id ∧ e' = ⟨e.g, s'⟩) ∨ (x ≠ id ∧ gt L x = some e') := fun x e' hx => by
  rw [gt_st] at hx
  split at hx
  ·rename_i hxi
   rw [he] at hx
   exact .inl ⟨hxi, by cases hx; rfl⟩
  ·rename_i hxi
   exact .inr ⟨hxi, hx⟩
 have hold : ∀ x e', x ≠ id → gt L x = some e' → (∀ b ∈ wb e', b ∉ X) ∧ ∀ z ∈ ros e'.s, ∀ b ∈ X, z.Frb b := fun x e' hx he' =>
  ⟨fun b hb hm => (h.sep2 x id e' e he' he hx b hb).1 (hX b hm), fun z hz b hb => (h.sep2 id x e e' he he' (fun q => hx q.symm) b (hX b hb)).2 z hz⟩
 obtain ⟨D, h1, h2⟩ := h.own
 refine ⟨h.lop, h.lom, h.ne, hk.var h.obj (fun hm => (hbp p hm).1 rfl), ⟨D, ?_, ?_⟩, ?_, fun x e' hx => ?_, fun x e' hx => ?_, fun x e' hx => ?_, fun x y e1 e2 h1 h2 hne b hb1 => ?_, fun x e' hx z hz => ?_⟩
 ·rw [show (st L id ⟨e.g, s'⟩).length = L.length by simp [st]]
  exact pown_kp h1 hk (fun hm => (hbp m hm).2 rfl)
 ·rw [pmp_st (e' := ⟨e.g, s'⟩) h.nd he rfl]
  exact h2
 ·rw [keys_st]
  exact h.nd
 ·rcases hgt x e' hx with ⟨rfl, rfl⟩ | ⟨hne, hx⟩
  ·exact hobj
  ·exact hk.var (h.srf x e' hx) ((hold x e' hne hx).1 e'.g (mem_wb.2 (.inl rfl)))
 ·rcases hgt x e' hx with ⟨rfl, rfl⟩ | ⟨hne, hx⟩
  ·exact hown
  ·exact (h.rows x e' hx).kp hk (hold x e' hne hx).1 (hold x e' hne hx).2
 ·rcases hgt x e' hx with ⟨rfl, rfl⟩ | ⟨hne, hx⟩
  ·refine ⟨hnd, fun b hb => ?_⟩
   refine ⟨?_, ?_, ?_, fun z hz => (hr z hz).1 b hb⟩
   ·rcases hw b hb with h1 | h1
    ·exact ((h.sep x e he).2 b h1).1
    ·have := h.lop
     omega
   ·rcases hw b hb with h1 | h1
    ·exact ((h.sep x e he).2 b h1).2.1
    ·omega
   ·rcases hw b hb with h1 | h1
    ·exact ((h.sep x e he).2 b h1).2.2.1
    ·omega
  ·exact h.sep x e' hx
 ·rcases hgt x e1 h1 with ⟨rfl, rfl⟩ | ⟨hne1, g1⟩
  ·rcases hgt y e2 h2 with ⟨rfl, _⟩ | ⟨hne2, g2⟩
   ·exact absurd rfl hne
   ·rcases hw b hb1 with hb' | hb'
    ·exact h.sep2 x y e e2 he g2 hne b hb'
    ·refine ⟨fun hm => ?_, fun z hz => (h.rows y e2 g2).ros hz hb'⟩
     have := (h.wlt g2 hm).2
     omega
  ·rcases hgt y e2 h2 with ⟨rfl, rfl⟩ | ⟨hne2, g2⟩
   ·have hq := h.sep2 x y e1 e g1 he hne b hb1
    refine ⟨fun hm => ?_, fun z hz => ?_⟩
    ·rcases hw b hm with hb' | hb'
     ·exact hq.1 hb'
     ·have := (h.wlt g1 hb1).2
      omega
    ·rcases (hr z hz).2 with h' | h'
     ·exact hq.2 z h'
     ·exact h' b (h.wlt g1 hb1).2
   ·exact h.sep2 x y e1 e2 g1 g2 hne b hb1
 ·rcases hgt x e' hx with ⟨rfl, rfl⟩ | ⟨hne, hx⟩
  ·rcases (hr z hz).2 with h' | h'
   ·exact h.far x e he z h'
   ·exact ⟨h' p hlp, h' m hlm⟩
  ·exact h.far x e' hx z hz
def Ofr (L : Po) (b : Nat) : Prop := ∀ x e, gt L x = some e → ∀ z ∈ ros e.s, z.Frb b
structure PfR (base : Nat) (w : World) (p m : Nat) (L : Po) (F : Fo) (w' : World) (L' : Po) : Prop where
 pf : Pf base w' p m L'
 ab : pab L' = F
 kp : Kp (m :: wbs L) w w'
 new : ∀ b ∈ wbs L', b ∈ wbs L ∨ w.heap.size ≤ b
 ofr : ∀ b, b < w.heap.size → Ofr L b → Ofr L' b
theorem PfR.refl (h : Pf base w p m L) (hb : Below w.heap.size w w') : PfR base w p m L (pab L) w' L := ⟨h.on hb, rfl, kp_of_below hb _, fun _ hb => .inl hb, fun _ _ h => h⟩
theorem PfR.trans {L' L'' : Po} {F F' : Fo} {w'' : World} (h : PfR base w p m L F w' L') (h' : PfR base w' p m L' F' w'' L'') : PfR base w p m L F' w'' L'' :=
 ⟨h'.pf, h'.ab, h.kp.trans h'.kp (fun b hb hlt => by
  rcases List.mem_cons.1 hb with rfl | hb
  ·exact List.mem_cons_self
  ·rcases h.new b hb with h1 | h1
   ·exact List.mem_cons_of_mem _ h1
   ·omega), fun b hb => by
  rcases h'.new b hb with h1 | h1
  ·exact h.new b h1
  ·exact .inr (Nat.le_trans h.kp.size h1), fun b hb ho => h'.ofr b (Nat.lt_of_lt_of_le hb h.kp.size) (h.ofr b hb ho)⟩
theorem wbs_st (hn : (keys L).Nodup) {id : Int} {e : Ps} (he : gt L id = some e) (e' : Ps) {N : Nat} (hw : ∀ b ∈ wb e', b ∈ wb e ∨ N ≤ b) : ∀ b ∈ wbs (st L id e'), b ∈ wbs L ∨ N ≤ b := fun b hb => by
 obtain ⟨x, e1, h1, h2⟩ := (mem_wbs (by rw [keys_st]; exact hn)).1 hb
 rw [gt_st] at h1
 split at h1
 ·rw [he] at h1
  cases h1
  rcases hw b h2 with h3 | h3
  ·exact .inl ((mem_wbs hn).2 ⟨id, e, he, h3⟩)
  ·exact .inr h3
 ·exact .inl ((mem_wbs hn).2 ⟨x, e1, h1, h2⟩)
theorem wb_wbs (h : Pf base w p m L) {x : Int} {e : Ps} (he : gt L x = some e) {b : Nat} (hb : b ∈ wb e) : b ∈ wbs L := (mem_wbs h.nd).2 ⟨x, e, he, hb⟩
def Old (N k i : Nat) (x x' : Sl) : Prop := ∀ b ∈ x'.bl, b ∈ x.bl ∨ (N ≤ b ∧ i = k)
theorem Old.same {N k i : Nat} {x : Sl} : Old N k i x x := fun _ h => .inl h
theorem Old.nil {N k i : Nat} {x x' : Sl} (h : x'.a = none) : Old N k i x x' := fun b hb => by
 obtain ⟨y, hy, _⟩ := bl_of.1 hb
 rw [h] at hy
 cases hy
theorem Old.fresh {N k : Nat} {x x' : Sl} (h : ∀ b ∈ x'.bl, b ∈ x.bl ∨ N ≤ b) : Old N k k x x' := fun b hb => (h b hb).imp id fun h => ⟨h, rfl⟩
def Rold (N : Nat) (X : List Nat) (z z' : Sl) : Prop := z' = z ∨ ∀ y, z'.a = some y → 0 < z'.n → N ≤ y.block ∧ y.block ∉ X
theorem Rold.same {N : Nat} {X : List Nat} {z : Sl} : Rold N X z z := .inl rfl
theorem Rold.nil {N : Nat} {X : List Nat} {z z' : Sl} (h : z'.a = none) : Rold N X z z' := .inr fun y hy => by rw [h] at hy; cases hy
def wk (k : Nat) (s : Sr) : List Nat := ((wos s)[k]?.map Sl.bl).getD []
structure Chg (N k : Nat) (s s' : Sr) : Prop where
 w0 : Old N k 0 s.pe.dm s'.pe.dm
 w1 : Old N k 1 s.pe.fr s'.pe.fr
 w2 : Old N k 2 s.pe.pl s'.pe.pl
 w3 : Old N k 3 s.ca.pl s'.ca.pl
 w4 : Old N k 4 s.no.pl s'.no.pl
 r0 : Rold N (wk k s') s.pe.rg s'.pe.rg
 r1 : Rold N (wk k s') s.pe.od s'.pe.od
 r2 : Rold N (wk k s') s.ca.dm s'.ca.dm
 r3 : Rold N (wk k s') s.ca.fr s'.ca.fr
 r4 : Rold N (wk k s') s.ca.rg s'.ca.rg
 r5 : Rold N (wk k s') s.ca.od s'.ca.od
 r6 : Rold N (wk k s') s.no.dm s'.no.dm
 r7 : Rold N (wk k s') s.no.fr s'.no.fr
 r8 : Rold N (wk k s') s.no.rg s'.no.rg
 r9 : Rold N (wk k s') s.no.od s'.no.od
theorem Chg.wr {N k : Nat} {s s' : Sr} (h : Chg N k s s') {i : Nat} {x : Sl} (hx : (wos s')[i]? = some x) {b : Nat} (hb : b ∈ x.bl) : (∃ y, (wos s)[i]? = some y ∧ b ∈ y.bl) ∨ (N ≤ b ∧ i = k) := by
 match i, hx with
 | 0, hx => cases hx; exact (h.w0 b hb).imp (fun h => ⟨_, rfl, h⟩) id
 | 1, hx => cases hx; exact (h.w1 b hb).imp (fun h => ⟨_, rfl, h⟩) id
 | 2, hx => cases hx; exact (h.w2 b hb).imp (fun h => ⟨_, rfl, h⟩) id
 | 3, hx => cases hx; exact (h.w3 b hb).imp (fun h => ⟨_, rfl, h⟩) id
 | 4, hx => cases hx; exact (h.w4 b hb).imp (fun h => ⟨_, rfl, h⟩) id
 | i + 5, hx => simp [wos] at hx
theorem Chg.rd {N k : Nat} {s s' : Sr} (h : Chg N k s s') {z : Sl} (hz : z ∈ ros s') : z ∈ ros s ∨ ∀ y, z.a = some y → 0 < z.n → N ≤ y.block ∧ y.block ∉ wk k s' := by
 simp only [ros, List.mem_cons, List.not_mem_nil, or_false] at hz
 rcases hz with rfl | rfl | rfl | rfl | rfl | rfl | rfl | rfl | rfl | rfl
 ·exact h.r0.imp (fun e => by rw [e]; simp [ros]) id
 ·exact h.r1.imp (fun e => by rw [e]; simp [ros]) id
 ·exact h.r2.imp (fun e => by rw [e]; simp [ros]) id
 ·exact h.r3.imp (fun e => by rw [e]; simp [ros]) id
 ·exact h.r4.imp (fun e => by rw [e]; simp [ros]) id
 ·exact h.r5.imp (fun e => by rw [e]; simp [ros]) id
 ·exact h.r6.imp (fun e => by rw [e]; simp [ros]) id
 ·exact h.r7.imp (fun e => by rw [e]; simp [ros]) id
 ·exact h.r8.imp (fun e => by rw [e]; simp [ros]) id
 ·exact h.r9.imp (fun e => by rw [e]; simp [ros]) id
theorem Pf.put {w0 : World} (h : Pf base w0 p m L) {id : Int} {e : Ps} (he : gt L id = some e) {X : List Nat} (hk0 : Kp X w0 w) (hX : ∀ b ∈ X, b ∈ wb e) (hk : Kp [e.g] w w') {s' : Sr}
  (hB : Bk w' e.g 113 (pcs s').toArray) (hown : s'.Own base w) {k : Nat} (hc : Chg w0.heap.size k e.s s') : PfR base w0 p m L (pab (st L id ⟨e.g, s'⟩)) w' (st L id ⟨e.g, s'⟩) := by
 obtain ⟨hsep, hb⟩ := h.sep id e he
 have hlt := fun b hb => h.wlt he (b := b) hb
 have hgm : e.g ∈ wb e := mem_wb.2 (.inl rfl)
 have hw : ∀ b ∈ wb ⟨e.g, s'⟩, b ∈ wb e ∨ w0.heap.size ≤ b := fun b hb => by
  rcases mem_wb.1 hb with rfl | ⟨x, hx, hb⟩
  ·exact .inl hgm
  ·obtain ⟨i, hi⟩ := List.getElem?_of_mem hx
   rcases hc.wr hi hb with ⟨y, hy, hb⟩ | ⟨hb, _⟩
   ·exact .inl (mem_wb.2 (.inr ⟨y, List.mem_of_getElem? hy, hb⟩))
   ·exact .inr hb
 have hnd : Sep ⟨e.g, s'⟩ := by
  refine ⟨fun x hx hm => ?_, fun i j x y b hx hy hbx hby => ?_⟩
  ·obtain ⟨i, hi⟩ := List.getElem?_of_mem hx
   rcases hc.wr hi hm with ⟨y, hy, hb⟩ | ⟨hb, _⟩
   ·exact hsep.g y (List.mem_of_getElem? hy) hb
   ·have := (hlt e.g hgm).2
    simp only at hb
    omega
  ·rcases hc.wr hx hbx with ⟨x', hx', hbx'⟩ | ⟨h1, h2⟩
   ·rcases hc.wr hy hby with ⟨y', hy', hby'⟩ | ⟨h3, h4⟩
    ·exact hsep.two i j x' y' b hx' hy' hbx' hby'
    ·have := (hlt b (mem_wb.2 (.inr ⟨x', List.mem_of_getElem? hx', hbx'⟩))).2
     omega
   ·rcases hc.wr hy hby with ⟨y', hy', hby'⟩ | ⟨h3, h4⟩
    ·have := (hlt b (mem_wb.2 (.inr ⟨y', List.mem_of_getElem? hy', hby'⟩))).2
     omega
    ·omega
 have hr : ∀ z ∈ ros s', (∀ b ∈ wb ⟨e.g, s'⟩, z.Frb b) ∧ (z ∈ ros e.s ∨ ∀ b, b < w0.heap.size → z.Frb b) := fun z hz => by
  rcases hc.rd hz with h1 | h1
  ·refine ⟨fun b hb' => ?_, .inl h1⟩
   rcases hw b hb' with h2 | h2
   ·exact (hb b h2).2.2.2 z h1
   ·exact (h.rows id e he).ros h1 h2
  ·refine ⟨fun b hb' => ?_, .inr fun b hb' y hy hn e1 => ?_⟩
   ·intro y hy hn e1
    obtain ⟨h2, h3⟩ := h1 y hy hn
    rcases mem_wb.1 hb' with rfl | ⟨x, hx, hbx⟩
    ·have := (hlt e.g hgm).2
     simp only at e1
     omega
    ·obtain ⟨i, hi⟩ := List.getElem?_of_mem hx
     rcases hc.wr hi hbx with ⟨y', hy', hb4⟩ | ⟨h4, h5⟩
     ·have := (hlt b (mem_wb.2 (.inr ⟨y', List.mem_of_getElem? hy', hb4⟩))).2
      omega
     ·subst h5
      refine h3 ?_
      simp only at hi
      rw [wk, hi, e1]
      exact hbx
   ·have := (h1 y hy hn).1
    omega
 have hk1 : Kp (e.g :: X) w0 w' := (hk0.mono (fun b hb _ => List.mem_cons_of_mem _ hb)).trans hk (fun b hb _ => by simp only [List.mem_cons, List.not_mem_nil, or_false] at hb; rw [hb]; exact List.mem_cons_self)
 have hX1 : ∀ b ∈ e.g :: X, b ∈ wb e := fun b hb => by
  rcases List.mem_cons.1 hb with rfl | hb
  ·exact hgm
  ·exact hX b hb
 have hown' : s'.Own base w' := by
  refine hown.kp0 hk (fun x hx b hb hm => ?_) (fun z hz b hb => ?_)
  ·simp only [List.mem_cons, List.not_mem_nil, or_false] at hm
   rw [hm] at hb
   exact hnd.g x hx hb
  ·simp only [List.mem_cons, List.not_mem_nil, or_false] at hb
   rw [hb]
   exact (hr z hz).1 e.g (mem_wb.2 (.inl rfl))
 exact ⟨h.turn he hk1 hX1 s' hB.obj hown' hnd hw hr, rfl, hk1.mono (fun b hb _ => List.mem_cons_of_mem _ (wb_wbs h he (hX1 b hb))), wbs_st h.nd he ⟨e.g, s'⟩ hw, fun b hb ho x e1 h1 z hz => by
  rw [gt_st] at h1
  split at h1
  ·rw [he] at h1
   cases h1
   rcases (hr z hz).2 with h2 | h2
   ·exact ho id e he z h2
   ·exact h2 b hb
  ·exact ho x e1 h1 z hz⟩
end
section
def Sent (w : World) (g : Nat) (a : Addr) : Prop := w.cell? ⟨g, 0, none⟩ = some (.iface 183 (.pointer (some a))) ∧ ∃ c t, w.heap[a.block]? = some (.cells c t (0, 0))
structure Errs (w : World) (gs : List Nat) (es : List Addr) : Prop where
 len : es.length = gs.length
 nodup : es.Nodup
 each : ∀ (i : Nat) (g : Nat) (a : Addr), gs[i]? = some g → es[i]? = some a → Sent w g a
theorem Sent.below {w w' : World} {g : Nat} {a : Addr} (h : Sent w g a) (hb : Below w.heap.size w w') : Sent w' g a := by
 obtain ⟨h1, c, t, h2⟩ := h
 refine ⟨?_, c, t, ?_⟩
 ·rw [hb.cell (World.block_lt_of_cell? w _ h1)]
  exact h1
 ·rw [hb.block _ (Array.getElem?_eq_some_iff.1 h2).1]
  exact h2
theorem Errs.below {w w' : World} {gs : List Nat} {es : List Addr} (h : Errs w gs es) (hb : Below w.heap.size w w') : Errs w' gs es :=
 ⟨h.len, h.nodup, fun i g a hg ha => (h.each i g a hg ha).below hb⟩
theorem row_one (a : Addr) : MemPlace.row a 1 = [.cell a.block a.off] := by simp [MemPlace.row]
theorem sents_of_laid {P : Program} {W : World} {nm : String} {ti tp te ts : TypeId} {ms : Array (String × TypeId)} {f : Field}
  (hi : P.underlying ti = some (.interface ms)) (hrow : ∀ u, P.typeName? 3 u = some nm → u = tp)
  (hp : P.underlying tp = some (.pointer te)) (he : P.underlying te = some (.struct #[f])) (hft : f.type = ts) (hfo : f.offset = 0) (hs : P.underlying ts = some .string) (hc : P.cellsOf te = 1) (hcs : P.cellsOf ts = 1) :
  ∀ (L : List (String × DataW Unit × Nat)) (ps : List MemPlace), (∀ x ∈ L, P.globalNamed x.1 = some x.2.2 ∧ (P.globals[x.2.2]?).map (·.type) = some ti ∧ ∃ t, x.2.1 = .iface nm (.ptr (.agg [.lit (.string t)]))) →
   DataW.LaidVars P W (L.map fun x => (x.1, x.2.1)) ps →
   (∀ b off, MemPlace.cell b off ∈ ps → (∃ c t, W.heap[b]? = some (.cells c t (0, 0))) ∧ ∀ u v, W.cell? ⟨b, off, none⟩ = some (.iface u v) → Value.okWide P W .any 0 u v) →
   ∃ es : List Addr, es.length = L.length ∧ List.Sublist (es.map fun a => MemPlace.cell a.block a.off) ps ∧
    ∀ (i : Nat) (g : Nat) (a : Addr), (L.map fun x => x.2.2)[i]? = some g → es[i]? = some a → W.cell? ⟨g, 0, none⟩ = some (.iface tp (.pointer (some a))) ∧ ∃ c t, W.heap[a.block]? = some (.cells c t (0, 0)) := by
 intro L
 induction L with
 | nil =>
  intro ps _ _ _
  exact ⟨[], rfl, List.nil_sublist _, fun i g a h => by simp at h⟩
 | cons x L ih =>
  intro ps hL hv hrows
  obtain ⟨n, d, g0⟩ := x
  obtain ⟨hg0, ht0, text, hd⟩ := hL _ (List.mem_cons_self ..)
  obtain ⟨g, t, cs, fuel, p, q, hg, ht, hvar, htrod, hq, rfl⟩ := hv
  simp only at hg0 ht0 hd
  obtain rfl := Option.some.inj (hg0.symm.trans hg)
  obtain rfl := Option.some.inj (ht0.symm.trans ht)
  obtain ⟨es, h1, h2, h3⟩ := ih q (fun x hx => hL x (List.mem_cons_of_mem _ hx)) hq (fun b off hm => hrows b off (List.mem_append_right _ hm))
  obtain ⟨l0⟩ := cs
  have ok0 : ∀ u v, l0 = [.iface u v] → Value.okWide P W .any 0 u v := fun u v e => by
   subst e
   exact (hrows g0 0 (by simp [MemPlace.row])).2 u v (by simpa using World.var?_cell hg hvar 0)
  subst hd
  obtain ⟨a0, s0, rfl, hc0, hs0, hz0, rfl⟩ := errorString_of_trod hi hrow hp he hft hfo hs hc hcs htrod ok0
  refine ⟨a0 :: es, by simp [h1], ?_, ?_⟩
  ·rw [List.map_cons, row_one a0, List.append_assoc]
   exact List.Sublist.trans (List.Sublist.cons_cons _ h2) (List.sublist_append_right _ _)
  ·intro i g a hgi hai
   cases i with
   | zero =>
    simp only [List.map_cons, List.getElem?_cons_zero, Option.some.injEq] at hgi hai
    subst hgi hai
    refine ⟨by simpa using World.var?_cell hg hvar 0, ?_⟩
    exact (hrows a0.block a0.off (by simp [MemPlace.row])).1
   | succ i =>
    simp only [List.map_cons, List.getElem?_cons_succ] at hgi hai
    exact h3 i g a hgi hai
theorem nodup_of_places {es : List Addr} {ps : List MemPlace} (h : ps.Nodup) (hs : List.Sublist (es.map fun a => MemPlace.cell a.block a.off) ps) : es.Nodup := by
 have h2 := List.Nodup.sublist hs h
 clear h hs
 induction es with
 | nil => exact List.nodup_nil
 | cons a es ih =>
  rw [List.map_cons, List.nodup_cons] at h2
  rw [List.nodup_cons]
  exact ⟨fun hm => h2.1 (List.mem_map_of_mem (f := fun a : Addr => MemPlace.cell a.block a.off) hm), ih h2.2⟩
theorem cellsES : Tryz.prog.cellsOf 209 = 1 := by kernel_rfl
theorem cellsStr : Tryz.prog.cellsOf 9 = 1 := by kernel_rfl
theorem star : "*" ++ "errors.errorString" = "*errors.errorString" := by decide
theorem rowES (u : TypeId) (h : Tryz.prog.typeName? 3 u = some "*errors.errorString") : u = 183 :=
 typeName_ptr_named (nm := "errors.errorString") (by rw [star]; kernel_rfl) (by kernel_rfl) (by decide) u (by rw [star]; exact h)
theorem errs_of_laid (L : List (String × DataW Unit × Nat)) {W : World} (hL : ∀ x ∈ L, Tryz.prog.globalNamed x.1 = some x.2.2 ∧ (Tryz.prog.globals[x.2.2]?).map (·.type) = some 60 ∧ ∃ t, x.2.1 = .iface "*errors.errorString" (.ptr (.agg [.lit (.string t)])))
  (h : laidMet Tryz.prog (L.map fun x => (x.1, x.2.1)) W) : ∃ es, Errs W (L.map fun x => x.2.2) es := by
 obtain ⟨ps, hv, hnd, hrows⟩ := h
 obtain ⟨es, h1, h2, h3⟩ := sents_of_laid Tryz.underlying60 rowES Tryz.underlying183 Tryz.underlying209 rfl rfl Tryz.underlying9 cellsES cellsStr L ps hL hv hrows
 exact ⟨es, by rw [h1, List.length_map], nodup_of_places hnd h2, h3⟩
theorem isTypeOf (v : Value) (w : World) : (Extern.ReflectliteType.typeOf #[.iface 183 v]).run Tryz.prog w = .ok (.iface 167 (.agg #[.pointer (some ⟨16, 183, none⟩)])) w := by kernel_rfl
theorem isComparable (w : World) : ((Extern.ReflectliteType.method fun t => do Extern.Rtype.noPackHeld "Comparable" t; (fun a => Value.bool a.comparable) <$> typeInfo t) #[.agg #[.pointer (some ⟨16, 183, none⟩)]]).run Tryz.prog w = .ok (.bool true) w := by kernel_rfl
theorem isMethodComparable (n : Nat) (v : Value) (w : World) : (Go.method (n + 1) 167 v "Comparable").run Tryz.prog w = .ok (155, v) w := by kernel_rfl
theorem isComp : (Tryz.prog.info? 183).map (·.comparable) = some true := by kernel_rfl
theorem isSize : (Tryz.prog.info? 209).map (·.size) = some 1 := by kernel_rfl
theorem noIsE (v : Value) (xT : TypeId) (w : World) : (Instr.typeAssert (.iface 183 v) xT 169 true).run Tryz.prog w = .ok (.tuple #[.nilIface, .bool false]) w := run_typeAssert_lacksB Tryz.underlying169 (by kernel_rfl) (by kernel_rfl) v xT w
theorem noUnwrapE (v : Value) (xT : TypeId) (w : World) : (Instr.typeAssert (.iface 183 v) xT 172 true).run Tryz.prog w = .ok (.tuple #[.nilIface, .bool false]) w := run_typeAssert_lacksB Tryz.underlying172 (by kernel_rfl) (by kernel_rfl) v xT w
theorem noUnwrapsE (v : Value) (xT : TypeId) (w : World) : (Instr.typeAssert (.iface 183 v) xT 174 true).run Tryz.prog w = .ok (.tuple #[.nilIface, .bool false]) w := run_typeAssert_lacksB Tryz.underlying174 (by kernel_rfl) (by kernel_rfl) v xT w
theorem is_same (a : Addr) (w : World) :
  Calls Tryz.prog 75 #[.iface 183 (.pointer (some a)), .iface 183 (.pointer (some a))] w fun e w' => e = .returned (.bool true) ∧ w' = w := by
 obtain ⟨i, hi, hcmp⟩ := Option.map_eq_some_iff.1 isComp
 obtain ⟨j, hj, hjs⟩ := Option.map_eq_some_iff.1 isSize
 have h8 := @run_callFunc_extern Tryz.prog 114 _ Extern.ReflectliteType.typeOf Tryz.func114 (by kernel_rfl) (by kernel_rfl) (by kernel_rfl) (by kernel_rfl)
 have h32 := @run_callFunc_extern Tryz.prog 155 _ (Extern.ReflectliteType.method fun t => do Extern.Rtype.noPackHeld "Comparable" t; pure (.bool (← typeInfo t).comparable)) Tryz.func155 (by kernel_rfl) (by kernel_rfl) (by kernel_rfl) (by kernel_rfl)
 have tT := isTypeOf
 have cT := isComparable
 have mR := isMethodComparable
 have heq := run_eql_iface_ptr_same (P := Tryz.prog) w a Tryz.underlying60 Tryz.underlying183 hi hcmp hj
 go_enter Tryz.func75, Tryz.ntmps75
 go_wp2
 refine wp_loop_rounds 1 ?_
 rw [rounds_succ]
 go_wp2
 go_ret
 exact ⟨rfl, rfl⟩
theorem is_other (a b : Addr) (ca cb : Array Value) (ta tb : TypeId) (w : World) (hne : a ≠ b) (ha : w.heap[a.block]? = some (.cells ca ta (0, 0))) (hb : w.heap[b.block]? = some (.cells cb tb (0, 0))) :
  Calls Tryz.prog 75 #[.iface 183 (.pointer (some a)), .iface 183 (.pointer (some b))] w fun e w' => e = .returned (.bool false) ∧ w' = w := by
 obtain ⟨i, hi, hcmp⟩ := Option.map_eq_some_iff.1 isComp
 obtain ⟨j, hj, hjs⟩ := Option.map_eq_some_iff.1 isSize
 have h8 := @run_callFunc_extern Tryz.prog 114 _ Extern.ReflectliteType.typeOf Tryz.func114 (by kernel_rfl) (by kernel_rfl) (by kernel_rfl) (by kernel_rfl)
 have h32 := @run_callFunc_extern Tryz.prog 155 _ (Extern.ReflectliteType.method fun t => do Extern.Rtype.noPackHeld "Comparable" t; pure (.bool (← typeInfo t).comparable)) Tryz.func155 (by kernel_rfl) (by kernel_rfl) (by kernel_rfl) (by kernel_rfl)
 have tT := isTypeOf
 have cT := isComparable
 have mR := isMethodComparable
 have nE := noIsE
 have uE := noUnwrapE
 have vE := noUnwrapsE
 have heq := run_eql_iface_ptr_other (P := Tryz.prog) w Tryz.underlying60 Tryz.underlying183 hi hcmp hj (by rw [hjs]; decide) hne ha hb
 go_enter Tryz.func75, Tryz.ntmps75
 go_wp2
 refine wp_loop_rounds 1 ?_
 rw [rounds_succ]
 go_wp2
 go_ret
 exact ⟨rfl, rfl⟩
def erv (es : List Addr) : Nat → Value
 | 0 => .nilIface
 | k + 1 => .iface 183 (.pointer (some (es.getD k ⟨0, 0, none⟩)))
def gerrs : List Nat := [0, 3, 4, 2, 1, 5, 6, 7, 8, 9, 10, 11, 12, 13, 14, 15]
def L16 : List (String × DataW Unit × Nat) := [("tableau/api.ErrArg", Rows.laid_tableau_api_ErrArg, 0), ("tableau/api.ErrShort", Rows.laid_tableau_api_ErrShort, 3), ("tableau/api.ErrBytes", Rows.laid_tableau_api_ErrBytes, 4), ("tableau/api.ErrBig", Rows.laid_tableau_api_ErrBig, 2), ("tableau/api.ErrObject", Rows.laid_tableau_api_ErrObject, 1), ("tableau/api.ErrMethod", Rows.laid_tableau_api_ErrMethod, 5), ("tableau/api.ErrFormat", Rows.laid_tableau_api_ErrFormat, 6), ("tableau/api.ErrStride", Rows.laid_tableau_api_ErrStride, 7), ("tableau/api.ErrFile", Rows.laid_tableau_api_ErrFile, 8), ("tableau/api.ErrRole", Rows.laid_tableau_api_ErrRole, 9), ("tableau/api.ErrPlace", Rows.laid_tableau_api_ErrPlace, 10), ("tableau/api.ErrState", Rows.laid_tableau_api_ErrState, 11), ("tableau/api.ErrSerial", Rows.laid_tableau_api_ErrSerial, 12), ("tableau/api.ErrFull", Rows.laid_tableau_api_ErrFull, 13), ("tableau/api.ErrGone", Rows.laid_tableau_api_ErrGone, 14), ("tableau/api.ErrSheet", Rows.laid_tableau_api_ErrSheet, 15)]
theorem laid16 : ∀ x ∈ L16, Tryz.prog.globalNamed x.1 = some x.2.2 ∧ (Tryz.prog.globals[x.2.2]?).map (·.type) = some 60 ∧ ∃ t, x.2.1 = .iface "*errors.errorString" (.ptr (.agg [.lit (.string t)])) := by
 intro x hx
 simp only [L16, List.mem_cons, List.not_mem_nil, or_false] at hx
 rcases hx with rfl | rfl | rfl | rfl | rfl | rfl | rfl | rfl | rfl | rfl | rfl | rfl | rfl | rfl | rfl | rfl
 all_goals exact ⟨by kernel_rfl, by kernel_rfl, _, rfl⟩
theorem errs16 {W : World} (h : laidMetH Tryz.prog (L16.map fun x => (x.1, x.2.1)) W) : ∃ es, Errs W gerrs es := by
 rw [MakeChecks.laidMetH_plain _ _ _ (by kernel_rfl)] at h
 exact errs_of_laid L16 laid16 h
end
end Go.Proofs.YtkjempffidndeaaGreatDoor
