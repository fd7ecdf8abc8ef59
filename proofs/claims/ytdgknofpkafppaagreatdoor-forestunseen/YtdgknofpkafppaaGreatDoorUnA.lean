/- Lemmas that the proof leans on. -/
import Derived.Test.YtdgknofpkafppaaGreatDoorB11
import Derived.Test.YtdgknofpkafppaaGreatDoorB49
namespace Go.Proofs.YtdgknofpkafppaaGreatDoor
open Go Go.RowKit
section
def noP (s : Sf) : Sf := { s with pe := sq0 }
def nop (F : Fo) : Fo := F.map fun e => (e.1, noP e.2)
theorem gt_nop (F : Fo) (x : Int) : gt (nop F) x = (gt F x).map noP := gt_map F noP x
theorem wlk_nop (F : Fo) : ∀ (n : Nat) (id x y : Int), wlk F n id x y = wlk (nop F) n id x y
 | 0, _, _, _ => rfl
 | n + 1, id, x, y => by
  unfold wlk
  rw [gt_nop]
  cases gt F id with
  | none => rfl
  | some s =>
   show (if s.no.buf = 0 then [] else _) = if s.no.buf = 0 then [] else _
   by_cases h : s.no.buf = 0
   ·rw [if_pos h, if_pos h]
   ·rw [if_neg h, if_neg h]
    show (un1 s.no.od).flatMap _ = (un1 s.no.od).flatMap _
    congr 1
    funext k
    by_cases hk : k = 0
    ·rw [if_pos hk, if_pos hk]
    ·rw [if_neg hk, if_neg hk]
     exact wlk_nop F n k _ _
theorem hld_nop (F : Fo) : hldL F = hldL (nop F) := by
 rw [hldL, hldL, nop, List.flatMap_map]
 rfl
theorem no_nop (F : Fo) (id : Int) : (gt F id).map Sf.no = (gt (nop F) id).map Sf.no := by
 rw [gt_nop, Option.map_map]
 rfl
theorem nop_upd {F : Fo} (hn : (keys F).Nodup) (id : Int) (f : Sf → Sf) (hf : ∀ s, noP (f s) = noP s) : nop (upd F id f) = nop F := by
 unfold upd
 cases h : gt F id with
 | none => rfl
 | some s =>
  show nop (st F id (f s)) = nop F
  rw [nop, st, nop, List.map_map]
  refine List.map_congr_left fun e he => ?_
  show (fun e : Int × Sf => (e.1, noP e.2)) (if e.1 = id then (id, f s) else e) = _
  by_cases h1 : e.1 = id
  ·have h2 := gt_in hn he
   rw [h1, h] at h2
   cases h2
   rw [if_pos h1]
   show (id, noP (f e.2)) = (e.1, noP e.2)
   rw [hf, h1]
  ·rw [if_neg h1]
theorem nop_pos {F : Fo} (hn : (keys F).Nodup) (id x y : Int) : nop (posF F id x y) = nop F := by
 unfold posF
 split
 ·rfl
 ·split
  ·rfl
  ·exact nop_upd hn _ _ (fun _ => rfl)
theorem nop_put {F : Fo} (hn : (keys F).Nodup) (id y : Int) (b : Nat) : nop (putF F id y b) = nop F := by
 unfold putF
 split
 ·rfl
 ·exact nop_upd hn _ _ (fun _ => rfl)
end
section
variable {es : List Addr} {w0 w w' : World} {p mm : Nat} {F G : Fo} {X : List Nat}
theorem nx_on {A : Th} {B : Nat} {w'' : World} (hA : Ft B A) (h : Nx A X w w') (hb : Below w'.heap.size w' w'') : Nx A X w w'' := by
 obtain ⟨X1, h1, h2, h3⟩ := h
 exact Nx.trans ⟨h1, h2, h3⟩ (Nx.refl hA h1 hb)
theorem Pg.wlkw (h : Pg es w0 w p mm F) (id : Int) (hi : Bt id) : Calls Tryz.prog 9 #[.pointer (some ⟨p, 0, none⟩), .int .i64 id] w fun e w' => ∃ a c, e = .returned (.slice a (Proofs.YtdgknofpkafppaaGreatDoor.wlk F 41 id 0 0).length c) ∧ RdM 3 w' a (Proofs.YtdgknofpkafppaaGreatDoor.wlk F 41 id 0 0).length c (Proofs.YtdgknofpkafppaaGreatDoor.wlk F 41 id 0 0) ∧ (∀ y, a = some y → w.heap.size ≤ y.block) ∧ RowKit.Below w.heap.size w w' := by
 obtain ⟨m, L, hP, rfl⟩ := h.ex
 refine (fwalk_any h.fe h.ng hP h.ok id hi).mono fun e w' ⟨v, h1, h2, hR⟩ => ?_
 obtain ⟨a, c, rfl, hr⟩ := own_rd3 h2 (wlk_size _ _ _ _)
 exact ⟨a, c, h1, hr, fun y hy => own_fy (s := ⟨a, (Proofs.YtdgknofpkafppaaGreatDoor.wlk (pab L) 41 id 0 0).length, c, []⟩) h2 y hy, hR⟩
theorem Pg.hldw (h : Pg es w0 w p mm F) : Calls Tryz.prog 10 #[.pointer (some ⟨p, 0, none⟩)] w fun e w' => ∃ a c, e = .returned (.slice a (setOf (hldL F)).length c) ∧ Rz w' a (setOf (hldL F)).length c (setOf (hldL F)) ∧ (∀ y, a = some y → w.heap.size ≤ y.block) ∧ RowKit.Below w.heap.size w w' := by
 obtain ⟨m, L, hP, rfl⟩ := h.ex
 refine (fheld_any hP (by rw [← pab_length L]; exact h.ok.inv.len)).mono fun e w' ⟨v, ys, h1, ho, hr, hm⟩ => ?_
 obtain ⟨a, c, rfl, hr2, hf⟩ := ho.rd
 have e1 : setOf (hldL (pab L)) = ys := setOf_eq hr hm
 rw [e1]
 exact ⟨a, c, h1, hr2, fun y hy => (hf y hy).1, ho.bel⟩
def Un (es : List Addr) (w0 : World) (p : Nat) (F : Fo) (X : List Nat) (V : World) (mm : Nat) (w : World) : Prop := ∃ F', nop F' = nop F ∧ Nx (Pq es w0 p mm F') X V w
variable {V : World}
theorem Un.on (h : Un es w0 p F X V mm w) (hb : Below w.heap.size w w') : Un es w0 p F X V mm w' := by
 obtain ⟨F', h1, h2⟩ := h
 exact ⟨F', h1, nx_on (pq_ft _ _ _ _ _) h2 hb⟩
theorem Un.kp (h : Un es w0 p F X V mm w) : Kp X V w := by
 obtain ⟨_, _, _, _, h, _⟩ := h
 exact h
theorem Un.bel (h : Un es w0 p F X V mm w) : RowKit.Below w0.heap.size w0 w := by
 obtain ⟨_, _, _, h, _⟩ := h
 exact h.1
theorem Un.call {f : Nat} {args : Array Value} {r : Fo → Nat} {G : Fo → Fo} (h : Un es w0 p F X V mm w) (hc : ∀ F', Ct Tryz.prog f args (Pq es w0 p mm F') (Pq es w0 p (mm + 1) (G F')) (erv es (r F'))) (hG : ∀ F' : Fo, (keys F').Nodup → nop (G F') = nop F') : Calls Tryz.prog f args w fun e w' => (∃ k, e = .returned (erv es k)) ∧ Un es w0 p F X V (mm + 1) w' := by
 obtain ⟨F', h1, X', h2, h3, h4⟩ := h
 refine (hc F' w X' h2).mono fun _ _ ⟨k1, k2⟩ => ⟨⟨_, k1⟩, G F', ?_, Nx.trans ⟨h2, h3, h4⟩ k2⟩
 rw [hG F' h2.pg.ok.inv.nod, h1]
theorem Un.inp (h : Un es w0 p F X V mm w) (id : Int) (hi : Bt id) : Calls Tryz.prog 19 #[.pointer (some ⟨p, 0, none⟩), .int .i64 id, .bool true, .slice none 0 0] w fun e w' => (∃ k, e = .returned (erv es k)) ∧ Un es w0 p F X V (mm + 1) w' := by
 obtain ⟨F', h1, X', h2, h3, h4⟩ := h
 refine (pq_inp h2 id hi true sl0 (RdM.nil _ _) (Nat.zero_le _) (fun y hy => by cases hy)).mono fun _ _ ⟨k1, k2⟩ => ⟨⟨_, k1⟩, _, ?_, Nx.trans ⟨h2, h3, h4⟩ k2⟩
 exact (nop_upd h2.pg.ok.inv.nod id (inpS true sl0.l) (fun _ => rfl)).trans h1
theorem Un.end_ (h : Un es w0 p F X V mm w) : ∃ F', Pg es w0 w p mm F' ∧ (∀ id, wlk F' 41 id 0 0 = wlk F 41 id 0 0) ∧ hldL F' = hldL F ∧ ∀ id, (gt F' id).map Sf.no = (gt F id).map Sf.no := by
 obtain ⟨F', h1, X', h2, _⟩ := h
 exact ⟨F', h2.pg, fun id => by rw [wlk_nop, h1, ← wlk_nop], by rw [hld_nop, h1, ← hld_nop], fun id => by rw [no_nop, h1, ← no_nop]⟩
theorem off_newb {x : Sx} {B b : Nat} (h : x.New B) (hb : b < B) : x.Off b :=
 ⟨fun y e _ e1 => by have := h.dm y e; omega, fun y e _ e1 => by have := h.fr y e; omega, fun y e _ e1 => by have := h.rg y e; omega, fun y e _ e1 => by have := h.od y e; omega, fun y e _ e1 => by have := h.pl y e; omega⟩
theorem oc_new (w : World) (o : Oq) : Oc17 (w.alloc (.cells #[.int .i64 o.k, .int .i64 o.id, .int .i64 o.a, .int .i64 o.b, .int .i64 o.x, .int .i64 o.y, .int .i64 o.w, .int .i64 o.h, .slice o.l.a o.l.n o.l.c] 33)) w.heap.size o :=
 ⟨Lib.cell_of_heap (heap_alloc_new w _) 0, Lib.cell_of_heap (heap_alloc_new w _) 1, Lib.cell_of_heap (heap_alloc_new w _) 2, Lib.cell_of_heap (heap_alloc_new w _) 3, Lib.cell_of_heap (heap_alloc_new w _) 4, Lib.cell_of_heap (heap_alloc_new w _) 5, Lib.cell_of_heap (heap_alloc_new w _) 6, Lib.cell_of_heap (heap_alloc_new w _) 7, Lib.cell_of_heap (heap_alloc_new w _) 8, by rw [World.size_alloc]; omega⟩
end
end Go.Proofs.YtdgknofpkafppaaGreatDoor
