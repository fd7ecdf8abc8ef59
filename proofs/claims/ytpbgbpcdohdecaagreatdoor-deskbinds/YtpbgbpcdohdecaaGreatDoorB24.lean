/- Lemmas that the proof leans on. -/
import Derived.Test.YtpbgbpcdohdecaaGreatDoorB23
import Derived.Deep.DeepHandedRow
namespace Go.Proofs.YtpbgbpcdohdecaaGreatDoor
open Go Go.RowKit
set_option maxRecDepth 100000
section
structure Ps where
 g : Nat
 s : Sr
abbrev Po := List (Int × Ps)
def pab (L : Po) : Fo := L.map fun e => (e.1, e.2.s.f)
theorem pab_length (L : Po) : (pab L).length = L.length := by simp [pab]
def pmp (L : Po) : List (Int × Option Nat) := L.map fun e => (e.1, some e.2.g)
theorem pmp_keys (L : Po) : keys (pmp L) = keys L := by simp [pmp, keys]
theorem pmp_length (L : Po) : (pmp L).length = L.length := by simp [pmp]
theorem gt_pmp (L : Po) (x : Int) : gt (pmp L) x = (gt L x).map fun e => some e.g := by
 induction L with
 | nil => rfl
 | cons e L ih =>
  rw [pmp, List.map_cons, gt, gt]
  split
  ·rfl
  ·exact ih
theorem gt_of_mem {α : Type} {l : List (Int × α)} (hn : (keys l).Nodup) {x : Int × α} (hx : x ∈ l) : gt l x.1 = some x.2 := by
 induction l with
 | nil => cases hx
 | cons e l ih =>
  rw [keys, List.map_cons, List.nodup_cons] at hn
  rw [gt]
  rcases List.mem_cons.1 hx with rfl | hx
  ·rw [if_pos rfl]
  ·rw [if_neg (fun he => hn.1 (by rw [he]; exact List.mem_map_of_mem (f := fun e : Int × α => e.1) hx))]
   exact ih hn.2 hx
def ptv : Option Nat → Value
 | none => .pointer none
 | some g => .pointer (some ⟨g, 0, none⟩)
def ptd : Option Nat → DataW Unit
 | none => .nil
 | some g => .agg [.lit (.int .i64 g)]
def ptR : Value → Option (DataW Unit × List MemPlace)
 | .pointer none => some (.nil, [])
 | .pointer (some ⟨g, 0, none⟩) => some (.agg [.lit (.int .i64 g)], [])
 | _ => none
theorem ptR_mk (q : Option Nat) : ptR (ptv q) = some (ptd q, []) := by
 cases q with
 | none => rfl
 | some q => simp [ptR, ptv, ptd]
theorem ptR_inv {x : Value} {q : Option Nat} {ps : List MemPlace} (h : ptR x = some (ptd q, ps)) : x = ptv q := by
 unfold ptR at h
 split at h
 ·cases q with
  | none => rfl
  | some q => simp [ptd] at h
 ·rename_i g
  cases q with
  | none => simp [ptd] at h
  | some q =>
   simp only [ptd, Option.some.injEq, Prod.mk.injEq, DataW.agg.injEq, List.cons.injEq, DataW.lit.injEq, Lit.int.injEq, true_and, and_true] at h
   have e1 : g = q := by omega
   rw [e1]
   rfl
 ·cases h
def pcs_PfA (s : Sr) : List Value := sxc s.pe ++ (sxc s.ca ++ (sxc s.no ++ [.int .i64 s.par, .bool s.syn]))
def Sl.v (x : Sl) : Value := .slice x.a x.n x.c
def Sl.bl (x : Sl) : List Nat := x.v.ownBlock.toList
def Sl.Frb (x : Sl) (P : Nat) : Prop := ∀ y, x.a = some y → 0 < x.n → y.block ≠ P
def wos (s : Sr) : List Sl := [s.pe.dm, s.pe.fr, s.pe.pl, s.ca.pl, s.no.pl]
def ros (s : Sr) : List Sl := [s.pe.rg, s.pe.od, s.ca.dm, s.ca.fr, s.ca.rg, s.ca.od, s.no.dm, s.no.fr, s.no.rg, s.no.od]
def wb (e : Ps) : List Nat := e.g :: (wos e.s).flatMap Sl.bl
structure Sr.Own (base : Nat) (w : World) (s : Sr) : Prop where
 ok : s.Ok w
 dm : w.ownsRow base 97 4 s.pe.dm.v s.pe.dm.n (mcs s.pe.dm.l)
 fr : w.ownsRow base 3 1 s.pe.fr.v s.pe.fr.n (mcs s.pe.fr.l)
 pp : w.ownsRow base 311 3 s.pe.pl.v s.pe.pl.n (mcs s.pe.pl.l)
 cp : w.ownsRow base 311 3 s.ca.pl.v s.ca.pl.n (mcs s.ca.pl.l)
 np : w.ownsRow base 311 3 s.no.pl.v s.no.pl.n (mcs s.no.pl.l)
theorem bl_mem {x : Sl} {b : Nat} : b ∈ x.bl ↔ x.v.ownBlock = some b := by simp [Sl.bl]
theorem bl_of {x : Sl} {b : Nat} : b ∈ x.bl ↔ ∃ y, x.a = some y ∧ y.block = b := by
 rw [bl_mem, Sl.v]
 cases h : x.a with
 | none => simp [Value.ownBlock]
 | some y => simp [Value.ownBlock]
theorem mem_wb {e : Ps} {b : Nat} : b ∈ wb e ↔ b = e.g ∨ ∃ x ∈ wos e.s, b ∈ x.bl := by
 rw [wb, List.mem_cons, List.mem_flatMap]
theorem own_blk {w : World} {base T m : Nat} {x : Sl} (h : w.ownsRow base T m x.v x.n (mcs x.l)) {b : Nat} (hb : b ∈ x.bl) : base ≤ b ∧ b < w.heap.size := h.lt b (bl_mem.1 hb)
theorem own_far {w w' : World} {base T m : Nat} {x : Sl} (h : w.ownsRow base T m x.v x.n (mcs x.l)) {X : List Nat} (hk : Kp X w w') (hX : ∀ b ∈ x.bl, b ∉ X) : w'.ownsRow base T m x.v x.n (mcs x.l) :=
 hk.row h (fun k hk => hX k (bl_mem.2 hk))
theorem rd_far {w w' : World} {m : Nat} {x : Sl} (h : RdM m w x.a x.n x.c x.l) {X : List Nat} (hk : Kp X w w') (hX : ∀ b ∈ X, x.Frb b) : RdM m w' x.a x.n x.c x.l :=
 h.kp hk (fun y e n hm => hX _ hm y e n rfl)
theorem rd_farw {w w' : World} {m : Nat} {x : Sl} (h : RdM m w x.a x.n x.c x.l) {X : List Nat} (hk : Kp X w w') (hX : ∀ b ∈ x.bl, b ∉ X) : RdM m w' x.a x.n x.c x.l :=
 h.kp hk (fun y e _ hm => hX _ (bl_of.2 ⟨y, e, rfl⟩) hm)
theorem far_old {w : World} {m : Nat} {x : Sl} (h : RdM m w x.a x.n x.c x.l) {b : Nat} (hb : w.heap.size ≤ b) : x.Frb b := rdm_off h hb
theorem Sr.Own.kp0 {base : Nat} {w w' : World} {s : Sr} (h : s.Own base w) {X : List Nat} (hk : Kp X w w') (hw : ∀ x ∈ wos s, ∀ b ∈ x.bl, b ∉ X) (hR : ∀ z ∈ ros s, ∀ b ∈ X, z.Frb b) : s.Own base w' := by
 refine ⟨⟨⟨?_, ?_, ?_, ?_, ?_⟩, ⟨?_, ?_, ?_, ?_, ?_⟩, ⟨?_, ?_, ?_, ?_, ?_⟩⟩, ?_, ?_, ?_, ?_, ?_⟩
 ·exact rd_farw h.ok.pe.dm hk (hw _ (by simp [wos]))
 ·exact rd_farw h.ok.pe.fr hk (hw _ (by simp [wos]))
 ·exact rd_far h.ok.pe.rg hk (hR _ (by simp [ros]))
 ·exact rd_far h.ok.pe.od hk (hR _ (by simp [ros]))
 ·exact rd_farw h.ok.pe.pl hk (hw _ (by simp [wos]))
 ·exact rd_far h.ok.ca.dm hk (hR _ (by simp [ros]))
 ·exact rd_far h.ok.ca.fr hk (hR _ (by simp [ros]))
 ·exact rd_far h.ok.ca.rg hk (hR _ (by simp [ros]))
 ·exact rd_far h.ok.ca.od hk (hR _ (by simp [ros]))
 ·exact rd_farw h.ok.ca.pl hk (hw _ (by simp [wos]))
 ·exact rd_far h.ok.no.dm hk (hR _ (by simp [ros]))
 ·exact rd_far h.ok.no.fr hk (hR _ (by simp [ros]))
 ·exact rd_far h.ok.no.rg hk (hR _ (by simp [ros]))
 ·exact rd_far h.ok.no.od hk (hR _ (by simp [ros]))
 ·exact rd_farw h.ok.no.pl hk (hw _ (by simp [wos]))
 ·exact own_far h.dm hk (hw _ (by simp [wos]))
 ·exact own_far h.fr hk (hw _ (by simp [wos]))
 ·exact own_far h.pp hk (hw _ (by simp [wos]))
 ·exact own_far h.cp hk (hw _ (by simp [wos]))
 ·exact own_far h.np hk (hw _ (by simp [wos]))
theorem Sr.Own.kp {base : Nat} {w w' : World} {e : Ps} (h : e.s.Own base w) {X : List Nat} (hk : Kp X w w') (hX : ∀ b ∈ wb e, b ∉ X) (hR : ∀ z ∈ ros e.s, ∀ b ∈ X, z.Frb b) : e.s.Own base w' :=
 h.kp0 hk (fun x hx b hb => hX b (mem_wb.2 (.inr ⟨x, hx, hb⟩))) hR
theorem Sr.Own.ros {base : Nat} {w : World} {s : Sr} (h : s.Own base w) {z : Sl} (hz : z ∈ ros s) {b : Nat} (hb : w.heap.size ≤ b) : z.Frb b := by
 simp only [Proofs.YtpbgbpcdohdecaaGreatDoor.ros, List.mem_cons, List.not_mem_nil, or_false] at hz
 rcases hz with rfl | rfl | rfl | rfl | rfl | rfl | rfl | rfl | rfl | rfl
 ·exact far_old h.ok.pe.rg hb
 ·exact far_old h.ok.pe.od hb
 ·exact far_old h.ok.ca.dm hb
 ·exact far_old h.ok.ca.fr hb
 ·exact far_old h.ok.ca.rg hb
 ·exact far_old h.ok.ca.od hb
 ·exact far_old h.ok.no.dm hb
 ·exact far_old h.ok.no.fr hb
 ·exact far_old h.ok.no.rg hb
 ·exact far_old h.ok.no.od hb
theorem Sr.Own.wos {base : Nat} {w : World} {s : Sr} (h : s.Own base w) {z : Sl} (hz : z ∈ wos s) {b : Nat} (hb : b ∈ z.bl) : base ≤ b ∧ b < w.heap.size := by
 simp only [Proofs.YtpbgbpcdohdecaaGreatDoor.wos, List.mem_cons, List.not_mem_nil, or_false] at hz
 rcases hz with rfl | rfl | rfl | rfl | rfl
 ·exact own_blk h.dm hb
 ·exact own_blk h.fr hb
 ·exact own_blk h.pp hb
 ·exact own_blk h.cp hb
 ·exact own_blk h.np hb
structure Sep (e : Ps) : Prop where
 g : ∀ x ∈ wos e.s, e.g ∉ x.bl
 two : ∀ (i j : Nat) x y b, (wos e.s)[i]? = some x → (wos e.s)[j]? = some y → b ∈ x.bl → b ∈ y.bl → i = j
structure Pf (base : Nat) (w : World) (p m : Nat) (L : Po) : Prop where
 lop : base ≤ p
 lom : base ≤ m
 ne : p ≠ m
 obj : w.heap[p]? = some (.cells #[.map (some m)] 116 (0, 0))
 own : ∃ D, w.ownsMap Tryz.prog 3 ptR m L.length D ∧ Rp ptd none D (pmp L)
 nd : (keys L).Nodup
 srf : ∀ x e, gt L x = some e → w.heap[e.g]? = some (.cells (pcs_PfA e.s).toArray 210 (0, 0))
 rows : ∀ x e, gt L x = some e → e.s.Own base w
 sep : ∀ x e, gt L x = some e → Sep e ∧ ∀ b ∈ wb e, base ≤ b ∧ b ≠ p ∧ b ≠ m ∧ ∀ z ∈ ros e.s, z.Frb b
 sep2 : ∀ x y e e', gt L x = some e → gt L y = some e' → x ≠ y → ∀ b ∈ wb e, b ∉ wb e' ∧ ∀ z ∈ ros e'.s, z.Frb b
 far : ∀ x e, gt L x = some e → ∀ z ∈ ros e.s, z.Frb p ∧ z.Frb m
theorem pown_kp_PfA {R : Value → Option (DataW Unit × List MemPlace)} {X : List Nat} {w w' : World} {b n : Nat} {D : DataW Unit} (h : w.ownsMap Tryz.prog 3 R b n D) (hk : Kp X w w') (hX : b ∉ X) : w'.ownsMap Tryz.prog 3 R b n D := by
 obtain ⟨es, clock, hb, F, hs, hD⟩ := h
 exact ⟨es, clock, hk.var hb hX, F, hs, hD⟩
variable {base : Nat} {w w' : World} {p m : Nat} {L : Po}
def wbs (L : Po) : List Nat := L.flatMap fun e => wb e.2
theorem mem_wbs (hn : (keys L).Nodup) {b : Nat} : b ∈ wbs L ↔ ∃ x e, gt L x = some e ∧ b ∈ wb e := by
 rw [wbs, List.mem_flatMap]
 constructor
 ·rintro ⟨e, he, hb⟩
  exact ⟨e.1, e.2, gt_of_mem hn he, hb⟩
 ·rintro ⟨x, e, he, hb⟩
  exact ⟨(x, e), gt_mem he, hb⟩
theorem Pf.lt (h : Pf base w p m L) : p < w.heap.size ∧ m < w.heap.size := by
 obtain ⟨D, h1, _⟩ := h.own
 exact ⟨(Array.getElem?_eq_some_iff.1 h.obj).1, h1.lt⟩
theorem Pf.wlt (h : Pf base w p m L) {x : Int} {e : Ps} (he : gt L x = some e) {b : Nat} (hb : b ∈ wb e) : base ≤ b ∧ b < w.heap.size := by
 refine ⟨((h.sep x e he).2 b hb).1, ?_⟩
 rcases mem_wb.1 hb with rfl | ⟨z, hz, hb⟩
 ·exact (Array.getElem?_eq_some_iff.1 (h.srf x e he)).1
 ·exact ((h.rows x e he).wos hz hb).2
theorem Pf.kept (h : Pf base w p m L) {X : List Nat} (hk : Kp X w w') (hp : p ∉ X) (hm : m ∉ X) (hw : ∀ x e, gt L x = some e → (∀ b ∈ wb e, b ∉ X) ∧ ∀ z ∈ ros e.s, ∀ b ∈ X, z.Frb b) : Pf base w' p m L := by
 obtain ⟨D, h1, h2⟩ := h.own
 exact ⟨h.lop, h.lom, h.ne, hk.var h.obj hp, ⟨D, pown_kp_PfA h1 hk hm, h2⟩, h.nd, fun x e he => hk.var (h.srf x e he) ((hw x e he).1 e.g (mem_wb.2 (.inl rfl))), fun x e he => (h.rows x e he).kp hk (hw x e he).1 (hw x e he).2, h.sep, h.sep2, h.far⟩
theorem Pf.on (h : Pf base w p m L) (hb : Below w.heap.size w w') : Pf base w' p m L := h.kept (kp_of_below hb []) (by simp) (by simp) (fun _ _ _ => ⟨by simp, by simp⟩)
theorem Pf.c0 (h : Pf base w p m L) : w.cell? ⟨p, 0, none⟩ = some (.map (some m)) := by rw [Lib.cell_of_heap h.obj]; rfl
theorem Pf.cell (h : Pf base w p m L) {x : Int} {e : Ps} (he : gt L x = some e) {j : Nat} : w.cell? ⟨e.g, j, none⟩ = (pcs_PfA e.s)[j]? := by
 rw [cell_of_row w e.g j _ _ _ (h.srf x e he)]
 simp
def Ofr (L : Po) (b : Nat) : Prop := ∀ x e, gt L x = some e → ∀ z ∈ ros e.s, z.Frb b
end
section
structure Fe (w : World) (es : List Addr) : Prop where
 arg : w.cell? ⟨2, 0, none⟩ = some (erv es 1)
 big : w.cell? ⟨5, 0, none⟩ = some (erv es 4)
 obj : w.cell? ⟨6, 0, none⟩ = some (erv es 5)
 rol : w.cell? ⟨11, 0, none⟩ = some (erv es 10)
 plc : w.cell? ⟨12, 0, none⟩ = some (erv es 11)
theorem Fe.on {w w' : World} {es : List Addr} (h : Fe w es) (hb : Below w.heap.size w w') : Fe w' es :=
 ⟨by rw [hb.cell (World.block_lt_of_cell? w _ h.arg)]; exact h.arg, by rw [hb.cell (World.block_lt_of_cell? w _ h.big)]; exact h.big,
  by rw [hb.cell (World.block_lt_of_cell? w _ h.obj)]; exact h.obj, by rw [hb.cell (World.block_lt_of_cell? w _ h.rol)]; exact h.rol, by rw [hb.cell (World.block_lt_of_cell? w _ h.plc)]; exact h.plc⟩
theorem fe_of {w : World} {es : List Addr} (h : Errs w gerrs es) : Fe w es := by
 have hl : es.length = 16 := h.len
 have each : ∀ i g, gerrs[i]? = some g → i < 16 → w.cell? ⟨g, 0, none⟩ = some (erv es (i + 1)) := fun i g hg hi => by
  have := (h.each i g _ hg (List.getElem?_eq_getElem (by omega))).1
  rw [this, erv, List.getD, List.getElem?_eq_getElem (by omega)]
  rfl
 exact ⟨each 0 _ rfl (by decide), each 3 _ rfl (by decide), each 4 _ rfl (by decide), each 9 _ rfl (by decide), each 10 _ rfl (by decide)⟩
end
section
section
variable {H : Type} {P : Program} {ops : Array Oper} {rest : List Oper} {o : Oper} {a : Act} (w : World) {Q : Exit → Act → World → Prop}
end
variable {base : Nat} {w w' : World} {p m : Nat} {L : Po} {id : Int} {es : List Addr}
theorem ptv_some (g : Nat) : ptv (some g) = .pointer (some ⟨g, 0, none⟩) := rfl
end
section
section
variable {P : Program} (w : World)
theorem run_append_own_at_LibD (base : Nat) (t tx ty e : TypeId) (i : TypeInfo) (z : Value) (size bytes : Nat) (ht : P.underlying t = some (.slice e)) (hi : P.info? e = some i) (hz : i.zero = some z)
  (hsize : i.size = size) (hby : i.bytes = bytes) (hzs : z.cells.size = size)
  (v : Value) (n : Nat) (xs : List Value) (hown : w.ownsRow base e size v n xs)
  (x : Value) (m : Nat) (news : List Value) (hs : Src P size tx x m news w)
  (h63 : n + m ≤ maxLen) (hbytes : ∀ old, old < n + m → Builtin.nextslicecap (n + m) old * bytes ≤ 281474976710656) (hbase : base ≤ w.heap.size) :
  ∃ v' w', (Builtin.append_ #[t, tx] ty #[v, x]).run P w = .ok v' w' ∧ w'.ownsRow base e size v' (n + m) (xs ++ news) ∧ w.grownBy w' v.ownBlock ∧ (v'.ownBlock = v.ownBlock ∨ v'.ownBlock = some w.heap.size) := by
 obtain ⟨v', w', hr, h1, h2⟩ := run_append_own_src (P := P) w base t tx ty e i z size bytes ht hi hz hsize hby hzs v n xs hown x m news hs h63 hbytes hbase
 refine ⟨v', w', hr, h1, h2, ?_⟩
 subst hsize
 subst hby
 have hl := hs.newsLen
 have hsmall : n + m ≤ 9223372036854775807 := by simp only [maxLen] at h63; omega
 rcases hown.2 with ⟨rfl, rfl⟩ | ⟨g, cap, cur, rfl, hbg, hg, hnc, hcm, hcs, htake⟩
 ·by_cases hm : m = 0
  ·subst hm
   have hn : news = [] := List.eq_nil_of_length_eq_zero (by simpa using hl)
   subst hn
   have hr' : (Builtin.append_ #[t, tx] ty #[.slice none 0 0, x]).run P w = .ok (.slice none 0 0) w := by
    rcases hs.kind with ⟨e', hk⟩ | hk <;> simp [Builtin.append_, run_underlying ht, run_underlying hk, sizeOf, typeInfo, hi, hs.len, hs.cells]
   have := hr.symm.trans hr'
   simp only [Result.ok.injEq] at this
   exact .inl (by rw [this.1])
  ·have hr' := run_append_grow_src (P := P) w t tx ty e i z ht hi hz none 0 0 [] (run_firstCells_none w.drew i.size 0 0 0) x m news hs (by omega) (by omega) (hbytes _ (by omega))
   have := hr.symm.trans hr'
   simp only [Result.ok.injEq] at this
   exact .inr (by rw [this.1]; rfl)
 ·by_cases hroom : n + m ≤ cap
  ·have hfit : n * i.size + news.length ≤ cur.size := by rw [hl, hcs, ← Nat.add_mul]; exact Nat.mul_le_mul_right _ hroom
   have hr' := run_append_room_own (P := P) (ty := ty) w t tx e i ht hi g n cap cur hg x m news hs hroom hfit
   have := hr.symm.trans hr'
   simp only [Result.ok.injEq] at this
   exact .inl (by rw [this.1]; rfl)
  ·have holds : ∀ j u, xs[j]? = some u → w.cell? ((⟨g, 0, none⟩ : Addr).add j) = some u := hown.cells (g := g) rfl
   have hold := run_firstCells_some (P := P) w.drew i.size n ⟨g, 0, none⟩ n cap xs hown.1 (by simpa using holds)
   have hr' := run_append_grow_src (P := P) w t tx ty e i z ht hi hz (some ⟨g, 0, none⟩) n cap xs hold x m news hs (by omega) (by omega) (hbytes _ (by omega))
   have := hr.symm.trans hr'
   simp only [Result.ok.injEq] at this
   exact .inr (by rw [this.1]; rfl)
theorem wpList_append_own_at_LibD {ops : Array Oper} {rest : List Oper} {o : Oper} {a : Act} {Q : Exit → Act → World → Prop} (hgd : o.guard = none) (s x : Operand) (t tx : TypeId)
  (ho : o.op = .call { callee := .builtin .append, args := #[s, x], argTypes := #[t, tx] })
  (base : Nat) (e : TypeId) (i : TypeInfo) (z : Value) (size bytes : Nat) (ht : P.underlying t = some (.slice e)) (hi : P.info? e = some i) (hz : i.zero = some z)
  (hsize : i.size = size) (hby : i.bytes = bytes) (hzs : z.cells.size = size)
  (v : Value) (n : Nat) (xs : List Value) (hs : a.eval s = v) (hown : w.ownsRow base e size v n xs)
  (xv : Value) (m : Nat) (news : List Value) (hx : a.eval x = xv) (hsrc : Src P size tx xv m news w)
  (h63 : n + m ≤ maxLen) (hbytes : ∀ old, old < n + m → Builtin.nextslicecap (n + m) old * bytes ≤ 281474976710656) (hbase : base ≤ w.heap.size)
  (h : ∀ v' w', w'.ownsRow base e size v' (n + m) (xs ++ news) → w.grownBy w' v.ownBlock → (v'.ownBlock = v.ownBlock ∨ v'.ownBlock = some w.heap.size) → wpList P ops Q rest (a.put o.dst v') w') : wpList P ops Q (o :: rest) a w :=
 wpList_plain hgd fun K hK => by
  obtain ⟨v', w', hr, h2, h3, h4⟩ := run_append_own_at_LibD (P := P) w base t tx o.type e i z size bytes ht hi hz hsize hby hzs v n xs hown xv m news hsrc h63 hbytes hbase
  unfold Oper.wp execOp
  simp only [ho, resolve, invoke, builtin, Sem.run_bind, Sem.run_pure, Result.andThen_ok, List.map_toArray, List.map_cons, List.map_nil, hs, hx, hr]
  exact hK _ _ (h v' w' h2 h3 h4)
end
end
section
variable {base : Nat} {w0 w w' : World} {p m : Nat} {L L' : Po} {F : Fo} {id : Int} {es : List Addr} {e : Ps}
theorem Fe.kb {B : Nat} (h : Fe w es) (hb : Below B w w') (hB : 16 ≤ B) : Fe w' es :=
 ⟨by rw [hb.cell (show 2 < B by omega)]; exact h.arg, by rw [hb.cell (show 5 < B by omega)]; exact h.big, by rw [hb.cell (show 6 < B by omega)]; exact h.obj, by rw [hb.cell (show 11 < B by omega)]; exact h.rol, by rw [hb.cell (show 12 < B by omega)]; exact h.plc⟩
end
section
section
variable {H : Type} {P : Program} {ops : Array Oper} {o : Oper} {a : Act} {w : World} {Kc : Act → World → Prop} {Q : Exit → Act → World → Prop} {E : Prop}
end
variable {base : Nat} {w0 w w' : World} {p m : Nat} {L L' : Po} {F : Fo} {id : Int} {es : List Addr} {e : Ps}
theorem fnew_any (w : World) : Calls Tryz.prog 22 #[] w fun e w' => e = .returned (.pointer (some ⟨w.heap.size + 1, 0, none⟩)) ∧ Below w.heap.size w w' ∧ ∀ base, base ≤ w.heap.size → Pf base w' (w.heap.size + 1) w.heap.size [] := by
 have H0 := hid (World.ownsMap_made w Tryz.prog 3 ptR)
 have hmm := @run_makeMap Tryz.prog
 go_enter Tryz.func22, Tryz.ntmps22
 go_wp2
 go_ret
 have hb : Below w.heap.size w (w.alloc (.map #[] 0)) := (Below.refl w.heap.size w).alloc (Nat.le_refl _) _
 refine ⟨by simp, hb.alloc hb.size _, fun base hbase => ⟨by omega, hbase, by omega, ?_, ⟨_, H0.out.alloc _, rp_empty _ _⟩, List.nodup_nil, ?_, ?_, ?_, ?_, ?_⟩⟩
 ·have := heap_alloc_new (w.alloc (.map #[] 0)) (.cells #[.map (some w.heap.size)] 116 (0, 0))
  simpa using this
 ·intro x e h
  cases h
 ·intro x e h
  cases h
 ·intro x e h
  cases h
 ·intro x y e e' h
  cases h
 ·intro x e h
  cases h
end
section
variable {base : Nat} {w0 w w' : World} {p m : Nat} {L L' : Po} {F : Fo} {id : Int} {es : List Addr} {e : Ps}
theorem ptR_val {v : Value} {y : DataW Unit × List MemPlace} (h : ptR v = some y) : ∃ c, v = ptv c := by
 unfold ptR at h
 split at h
 ·exact ⟨none, rfl⟩
 ·rename_i g
  exact ⟨some g, rfl⟩
 ·cases h
theorem same_int (x y : Int) : (Lit.int .i64 x).sameKey (.int .i64 y) = (x == y) := by
 rw [Bool.eq_iff_iff]
 constructor
 ·intro h
  have := WideAt.sameKey_eq h
  simp only [Lit.int.injEq, true_and] at this
  simp [this]
 ·intro h
  have : x = y := by simpa using h
  rw [this]
  exact WideAt.sameKey_self trivial
end
section
variable {base : Nat} {w0 w w' : World} {p m : Nat} {L L' : Po} {F : Fo} {id : Int} {es : List Addr} {e : Ps}
theorem Pf.cells (h : Pf base w p m L) (he : gt L id = some e) : (w.cell? ⟨e.g, 0, none⟩ = some (.bool e.s.pe.at_) ∧ w.cell? ⟨e.g, 1, none⟩ = some (.int .i64 e.s.pe.buf) ∧ w.cell? ⟨e.g, 2, none⟩ = some (.slice e.s.pe.dm.a e.s.pe.dm.n e.s.pe.dm.c) ∧ w.cell? ⟨e.g, 3, none⟩ = some (.slice e.s.pe.fr.a e.s.pe.fr.n e.s.pe.fr.c) ∧ w.cell? ⟨e.g, 4, none⟩ = some (.bool e.s.pe.inp) ∧ w.cell? ⟨e.g, 5, none⟩ = some (.bool e.s.pe.all) ∧ w.cell? ⟨e.g, 6, none⟩ = some (.slice e.s.pe.rg.a e.s.pe.rg.n e.s.pe.rg.c) ∧ w.cell? ⟨e.g, 7, none⟩ = some (.bool e.s.pe.ord) ∧ w.cell? ⟨e.g, 8, none⟩ = some (.slice e.s.pe.od.a e.s.pe.od.n e.s.pe.od.c) ∧ w.cell? ⟨e.g, 9, none⟩ = some (.slice e.s.pe.pl.a e.s.pe.pl.n e.s.pe.pl.c)) ∧ (w.cell? ⟨e.g, 10, none⟩ = some (.bool e.s.ca.at_) ∧ w.cell? ⟨e.g, 11, none⟩ = some (.int .i64 e.s.ca.buf) ∧ w.cell? ⟨e.g, 12, none⟩ = some (.slice e.s.ca.dm.a e.s.ca.dm.n e.s.ca.dm.c) ∧ w.cell? ⟨e.g, 13, none⟩ = some (.slice e.s.ca.fr.a e.s.ca.fr.n e.s.ca.fr.c) ∧ w.cell? ⟨e.g, 14, none⟩ = some (.bool e.s.ca.inp) ∧ w.cell? ⟨e.g, 15, none⟩ = some (.bool e.s.ca.all) ∧ w.cell? ⟨e.g, 16, none⟩ = some (.slice e.s.ca.rg.a e.s.ca.rg.n e.s.ca.rg.c) ∧ w.cell? ⟨e.g, 17, none⟩ = some (.bool e.s.ca.ord) ∧ w.cell? ⟨e.g, 18, none⟩ = some (.slice e.s.ca.od.a e.s.ca.od.n e.s.ca.od.c) ∧ w.cell? ⟨e.g, 19, none⟩ = some (.slice e.s.ca.pl.a e.s.ca.pl.n e.s.ca.pl.c)) ∧ (w.cell? ⟨e.g, 20, none⟩ = some (.bool e.s.no.at_) ∧ w.cell? ⟨e.g, 21, none⟩ = some (.int .i64 e.s.no.buf) ∧ w.cell? ⟨e.g, 22, none⟩ = some (.slice e.s.no.dm.a e.s.no.dm.n e.s.no.dm.c) ∧ w.cell? ⟨e.g, 23, none⟩ = some (.slice e.s.no.fr.a e.s.no.fr.n e.s.no.fr.c) ∧ w.cell? ⟨e.g, 24, none⟩ = some (.bool e.s.no.inp) ∧ w.cell? ⟨e.g, 25, none⟩ = some (.bool e.s.no.all) ∧ w.cell? ⟨e.g, 26, none⟩ = some (.slice e.s.no.rg.a e.s.no.rg.n e.s.no.rg.c) ∧ w.cell? ⟨e.g, 27, none⟩ = some (.bool e.s.no.ord) ∧ w.cell? ⟨e.g, 28, none⟩ = some (.slice e.s.no.od.a e.s.no.od.n e.s.no.od.c) ∧ w.cell? ⟨e.g, 29, none⟩ = some (.slice e.s.no.pl.a e.s.no.pl.n e.s.no.pl.c)) :=
 ⟨⟨h.cell he, h.cell he, h.cell he, h.cell he, h.cell he, h.cell he, h.cell he, h.cell he, h.cell he, h.cell he⟩, ⟨h.cell he, h.cell he, h.cell he, h.cell he, h.cell he, h.cell he, h.cell he, h.cell he, h.cell he, h.cell he⟩, ⟨h.cell he, h.cell he, h.cell he, h.cell he, h.cell he, h.cell he, h.cell he, h.cell he, h.cell he, h.cell he⟩⟩
end
section
theorem own_val {w : World} {B T s n : Nat} {v : Value} {xs : List Value} (h : w.ownsRow B T s v n xs) : ∃ a c, v = .slice a n c := by
 rcases h.2 with ⟨rfl, rfl⟩ | ⟨g, cap, cur, rfl, _⟩
 ·exact ⟨_, _, rfl⟩
 ·exact ⟨_, _, rfl⟩
variable {base B : Nat} {w u w' : World} {p m : Nat} {L L' : Po} {F : Fo} {cf ca cb : Nat} {vl : Value} {es : List Addr}
end
section
open Go Go.RowKit Go.Maps Go.Sort Go.Shelf
def sortA_ren_ShlF : Go.Shelf.Ren := ⟨fun | 5 => 99 | 8 => 161 | 7 => 160 | 19 => 229 | 20 => 230 | 10 => 220 | 11 => 221 | 12 => 222 | 13 => 223 | 14 => 224 | 15 => 225 | 16 => 226 | 17 => 227 | 18 => 228 | 30 => 276 | 31 => 277 | 32 => 278 | 33 => 279 | 34 => 280 | 35 => 281 | 40 => 303 | n => n, fun | 23 => 120 | 25 => 3 | 3 => 3 | 32 => 221 | 22 => 120 | 0 => 0 | 44 => 55 | 46 => 330 | 4 => 4 | 36 => 323 | 35 => 322 | 41 => 258 | 5 => 5 | 9 => 9 | 53 => 365 | 57 => 369 | 63 => 385 | 64 => 94 | n => n, fun | n => n⟩
theorem sortA_ShlF : Go.Proofs.SlLaysM.n5 Tryz.prog sortA_ren_ShlF := {
 mixed := by kernel_rfl
 f5 := ⟨Tryz.f99.name, by decide, Tryz.func99.trans (congrArg some (by kernel_rfl))⟩
 f7 := ⟨Tryz.f160.name, by decide, Tryz.func160.trans (congrArg some (by kernel_rfl))⟩
 f8 := Tryz.func161.trans (congrArg some (by kernel_rfl))
 f10 := ⟨Tryz.f220.name, by decide, Tryz.func220.trans (congrArg some (by kernel_rfl))⟩
 f11 := ⟨Tryz.f221.name, by decide, Tryz.func221.trans (congrArg some (by kernel_rfl))⟩
 f12 := ⟨Tryz.f222.name, by decide, Tryz.func222.trans (congrArg some (by kernel_rfl))⟩
 f13 := ⟨Tryz.f223.name, by decide, Tryz.func223.trans (congrArg some (by kernel_rfl))⟩
 f14 := ⟨Tryz.f224.name, by decide, Tryz.func224.trans (congrArg some (by kernel_rfl))⟩
 f15 := ⟨Tryz.f225.name, by decide, Tryz.func225.trans (congrArg some (by kernel_rfl))⟩
 f16 := ⟨Tryz.f226.name, by decide, Tryz.func226.trans (congrArg some (by kernel_rfl))⟩
 f17 := ⟨Tryz.f227.name, by decide, Tryz.func227.trans (congrArg some (by kernel_rfl))⟩
 f18 := ⟨Tryz.f228.name, by decide, Tryz.func228.trans (congrArg some (by kernel_rfl))⟩
 f19 := Tryz.func229.trans (congrArg some (by kernel_rfl))
 f20 := Tryz.func230.trans (congrArg some (by kernel_rfl))
 f30 := ⟨Tryz.f276.name, by decide, Tryz.func276.trans (congrArg some (by kernel_rfl))⟩
 f31 := Tryz.func277.trans (congrArg some (by kernel_rfl))
 f32 := Tryz.func278.trans (congrArg some (by kernel_rfl))
 f33 := ⟨Tryz.f279.name, by decide, Tryz.func279.trans (congrArg some (by kernel_rfl))⟩
 f34 := ⟨Tryz.f280.name, by decide, Tryz.func280.trans (congrArg some (by kernel_rfl))⟩
 f35 := ⟨Tryz.f281.name, by decide, Tryz.func281.trans (congrArg some (by kernel_rfl))⟩
 f40 := ⟨Tryz.f303.name, by decide, Tryz.func303.trans (congrArg some (by kernel_rfl))⟩
 t0 := Tryz.underlying0
 a0 := Tryz.isAgg0
 z0 := Tryz.sizeOf0
 v0 := Tryz.zeroValue0
 t3 := Tryz.underlying3
 a3 := Tryz.isAgg3
 z3 := Tryz.sizeOf3
 v3 := Tryz.zeroValue3
 t4 := Tryz.underlying4
 a4 := Tryz.isAgg4
 z4 := Tryz.sizeOf4
 v4 := Tryz.zeroValue4
 t5 := Tryz.underlying5
 a5 := Tryz.isAgg5
 z5 := Tryz.sizeOf5
 v5 := Tryz.zeroValue5
 t9 := Tryz.underlying9
 a9 := Tryz.isAgg9
 z9 := Tryz.sizeOf9
 v9 := Tryz.zeroValue9
 t22 := Tryz.underlying120
 a22 := Tryz.isAgg120
 z22 := Tryz.sizeOf120
 v22 := Tryz.zeroValue120
 t23 := Tryz.underlying120
 a23 := Tryz.isAgg120
 z23 := Tryz.sizeOf120
 v23 := Tryz.zeroValue120
 t25 := Tryz.underlying3
 a25 := Tryz.isAgg3
 z25 := Tryz.sizeOf3
 v25 := Tryz.zeroValue3
 t32 := Tryz.underlying221
 a32 := Tryz.isAgg221
 z32 := Tryz.sizeOf221
 v32 := Tryz.zeroValue221
 t35 := Tryz.underlying322
 a35 := Tryz.isAgg322
 z35 := Tryz.sizeOf322
 v35 := Tryz.zeroValue322
 t36 := Tryz.underlying323
 a36 := Tryz.isAgg323
 z36 := Tryz.sizeOf323
 v36 := Tryz.zeroValue323
 t41 := Tryz.underlying258
 a41 := Tryz.isAgg258
 z41 := Tryz.sizeOf258
 v41 := Tryz.zeroValue258
 t44 := Tryz.underlying55
 a44 := Tryz.isAgg55
 z44 := Tryz.sizeOf55
 v44 := Tryz.zeroValue55
 t46 := Tryz.underlying330
 a46 := Tryz.isAgg330
 z46 := Tryz.sizeOf330
 v46 := Tryz.zeroValue330
 t53 := Tryz.underlying365
 a53 := Tryz.isAgg365
 z53 := Tryz.sizeOf365
 v53 := Tryz.zeroValue365
 t57 := Tryz.underlying369
 a57 := Tryz.isAgg369
 z57 := Tryz.sizeOf369
 v57 := Tryz.zeroValue369
 t63 := Tryz.underlying385
 a63 := Tryz.isAgg385
 z63 := Tryz.sizeOf385
 v63 := Tryz.zeroValue385
 t64 := Tryz.underlying94
 a64 := Tryz.isAgg94
 z64 := Tryz.sizeOf94
 v64 := Tryz.zeroValue94 }
def compA_ren_ShlF : Go.Shelf.Ren := ⟨fun | 43 => 100 | n => n, fun | 22 => 120 | 23 => 3 | 3 => 3 | 4 => 4 | 0 => 0 | n => n, fun | n => n⟩
theorem compA_ShlF : Go.Proofs.SlLaysN.n43 Tryz.prog compA_ren_ShlF := {
 mixed := by kernel_rfl
 f43 := ⟨Tryz.f100.name, by decide, Tryz.func100.trans (congrArg some (by kernel_rfl))⟩
 t0 := Tryz.underlying0
 a0 := Tryz.isAgg0
 z0 := Tryz.sizeOf0
 v0 := Tryz.zeroValue0
 t3 := Tryz.underlying3
 a3 := Tryz.isAgg3
 z3 := Tryz.sizeOf3
 v3 := Tryz.zeroValue3
 t4 := Tryz.underlying4
 a4 := Tryz.isAgg4
 z4 := Tryz.sizeOf4
 v4 := Tryz.zeroValue4
 t22 := Tryz.underlying120
 a22 := Tryz.isAgg120
 z22 := Tryz.sizeOf120
 v22 := Tryz.zeroValue120
 t23 := Tryz.underlying3
 a23 := Tryz.isAgg3
 z23 := Tryz.sizeOf3
 v23 := Tryz.zeroValue3
 i23 := by kernel_rfl }
end
end Go.Proofs.YtpbgbpcdohdecaaGreatDoor
