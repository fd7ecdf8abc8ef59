/- The program's forest as a thing in blocks of its own. Written by forest/mk_pgt.py. -/
import Derived.Test.YtdgknofpkafppaaDoorBh
import Derived.Test.YtdgknofpkafppaaDoorLibZ
namespace Go.Proofs.YtdgknofpkafppaaDoor
open Go Go.RowKit

/-- The blocks of what is only read. -/
def rbs (L : Po) : List Nat := L.flatMap fun e => (ros e.2.s).flatMap fun z => if 0 < z.n then z.bl else []
theorem mem_rbs {L : Po} (hn : (keys L).Nodup) {b : Nat} : b ∈ rbs L ↔ ¬ Ofr L b := by
  rw [rbs, List.mem_flatMap]
  constructor
  · rintro ⟨e, he, hb⟩ ho
    obtain ⟨z, hz, hb⟩ := List.mem_flatMap.1 hb
    split at hb
    · rename_i h0
      obtain ⟨y, hy, e1⟩ := bl_of.1 hb
      exact ho e.1 e.2 (gt_of_mem hn he) z hz y hy h0 e1
    · cases hb
  · intro h
    obtain ⟨x, h⟩ := Classical.not_forall.1 h
    obtain ⟨e, h⟩ := Classical.not_forall.1 h
    obtain ⟨he, h⟩ := Classical.not_imp.1 h
    obtain ⟨z, h⟩ := Classical.not_forall.1 h
    obtain ⟨hz, h⟩ := Classical.not_imp.1 h
    obtain ⟨y, h⟩ := Classical.not_forall.1 h
    obtain ⟨hy, h⟩ := Classical.not_imp.1 h
    obtain ⟨h0, h⟩ := Classical.not_imp.1 h
    refine ⟨(x, e), gt_mem he, List.mem_flatMap.2 ⟨z, hz, ?_⟩⟩
    rw [if_pos h0]
    exact bl_of.2 ⟨y, hy, Classical.not_not.1 h⟩
/-- All its blocks. -/
def fbl (p m : Nat) (L : Po) : List Nat := p :: m :: (wbs L ++ rbs L)
theorem mem_fbl {p m : Nat} {L : Po} {b : Nat} : b ∈ fbl p m L ↔ b = p ∨ b = m ∨ b ∈ wbs L ∨ b ∈ rbs L := by
  rw [fbl, List.mem_cons, List.mem_cons, List.mem_append]
/-- The program's forest at p, after mm calls. -/
def Pq (es : List Addr) (w0 : World) (p mm : Nat) (F : Fo) : Th := fun w X => RowKit.Below w0.heap.size w0 w ∧ Fe w es ∧ 5 ≤ w0.heap.size ∧ Fok mm F ∧ ∃ m L, Pf w0.heap.size w p m L ∧ pab L = F ∧ (∀ b, b < w0.heap.size → Ofr L b) ∧ X = fbl p m L
variable {X : List Nat} {es : List Addr} {w0 w w' : World} {p mm : Nat} {F : Fo}
theorem Pf.rlt {base m : Nat} {L : Po} (h : Pf base w p m L) {b : Nat} (hb : b ∈ rbs L) : b < w.heap.size := by
  rcases Nat.lt_or_ge b w.heap.size with h1 | h1
  · exact h1
  · exact absurd (fun x e he z hz => (h.rows x e he).ros hz h1) ((mem_rbs h.nd).1 hb)
theorem pq_ft (es : List Addr) (w0 : World) (p mm : Nat) (F : Fo) : Ft w0.heap.size (Pq es w0 p mm F) := by
  refine ⟨fun {w X} h b hb => ?_, fun {w w' X Y} h hk hY hX => ?_⟩
  · obtain ⟨_, _, _, _, m, L, h1, _, h3, rfl⟩ := h
    rcases mem_fbl.1 hb with rfl | rfl | hb | hb
    · exact ⟨h1.lop, h1.lt.1⟩
    · exact ⟨h1.lom, h1.lt.2⟩
    · obtain ⟨x, e, he, hb⟩ := (mem_wbs h1.nd).1 hb
      exact h1.wlt he hb
    · refine ⟨?_, h1.rlt hb⟩
      rcases Nat.lt_or_ge b w0.heap.size with h4 | h4
      · exact absurd (h3 b h4) ((mem_rbs h1.nd).1 hb)
      · exact h4
  · obtain ⟨g1, g2, g3, g4, m, L, h1, h2, h3, rfl⟩ := h
    have hb := hk.below g1.size hY
    refine ⟨g1.trans hb, g2.kb hb g3, g3, g4, m, L, h1.kept hk (hX p (mem_fbl.2 (.inl rfl))) (hX m (mem_fbl.2 (.inr (.inl rfl)))) (fun x e he => ⟨fun b hb => hX b (mem_fbl.2 (.inr (.inr (.inl ((mem_wbs h1.nd).2 ⟨x, e, he, hb⟩))))), fun z hz b hb => ?_⟩), h2, h3, rfl⟩
    have hnr : b ∉ rbs L := fun hm => hX b (mem_fbl.2 (.inr (.inr (.inr hm)))) hb
    have ho : Ofr L b := Classical.not_not.1 fun h => hnr ((mem_rbs h1.nd).2 h)
    exact ho x e he z hz
theorem Pq.pg (h : Pq es w0 p mm F w X) : Pg es w0 w p mm F := by
  obtain ⟨g1, g2, g3, g4, m, L, h1, h2, _⟩ := h
  exact ⟨⟨m, L, h1, h2⟩, g4, g2, g3, g1⟩
theorem pq_mono {n : Nat} (h : Pq es w0 p mm F w X) (hn : mm ≤ n) : Pq es w0 p n F w X := by
  obtain ⟨g1, g2, g3, g4, h⟩ := h
  exact ⟨g1, g2, g3, g4.mono hn, h⟩
/-- What a call leaves. -/
theorem pqx {m : Nat} {L L' : Po} {G : Fo} {n : Nat} (g1 : RowKit.Below w0.heap.size w0 w) (g2 : Fe w es) (g3 : 5 ≤ w0.heap.size) (hP : Pf w0.heap.size w p m L) (hl : ∀ b, b < w0.heap.size → Ofr L b) (hR : PfR w0.heap.size w p m L G w' L') (hok : Fok n G) : Nx (Pq es w0 p n G) (fbl p m L) w w' := by
  have hb := hR.bel hP
  refine ⟨fbl p m L', ⟨g1.trans hb, g2.kb hb g3, g3, hok, m, L', hR.pf, hR.ab, fun b h => hR.ofr b (Nat.lt_of_lt_of_le h g1.size) (hl b h), rfl⟩, hR.kp.mono (fun b hb _ => ?_), fun b hb => ?_⟩
  · rcases List.mem_cons.1 hb with rfl | hb
    · exact mem_fbl.2 (.inr (.inl rfl))
    · exact mem_fbl.2 (.inr (.inr (.inl hb)))
  · rcases mem_fbl.1 hb with rfl | rfl | hb | hb
    · exact .inl (mem_fbl.2 (.inl rfl))
    · exact .inl (mem_fbl.2 (.inr (.inl rfl)))
    · exact (hR.new b hb).imp (fun h => mem_fbl.2 (.inr (.inr (.inl h)))) id
    · rcases Nat.lt_or_ge b w.heap.size with h1 | h1
      · by_cases ho : Ofr L b
        · exact absurd (hR.ofr b h1 ho) ((mem_rbs hR.pf.nd).1 hb)
        · exact .inl (mem_fbl.2 (.inr (.inr (.inr ((mem_rbs hP.nd).2 ho)))))
      · exact .inr h1
theorem pq_new (w0 w : World) (hb : Below w0.heap.size w0 w) (hE : Fe w es) (hn : 5 ≤ w0.heap.size) : Calls Tryd.prog 8 #[] w fun e w' => ∃ p X, e = .returned (.pointer (some ⟨p, 0, none⟩)) ∧ Pq es w0 p 0 [] w' X ∧ Below w.heap.size w w' ∧ ∀ b ∈ X, w.heap.size ≤ b :=
  (fnew_any w).mono fun _ _ ⟨h1, h2, h3⟩ => ⟨_, _, h1, ⟨Below.on hb h2, hE.on h2, hn, fok_nil, _, _, h3 _ hb.size, rfl, fun b _ x e h => (by cases h), rfl⟩, h2, fun b hb => by
    simp only [fbl, wbs, rbs, List.flatMap_nil, List.append_nil, List.mem_cons, List.not_mem_nil, or_false] at hb
    omega⟩
theorem pq_add (_hm : mm ≤ 900) (id : Int) (hi : Bt id) : Ct Tryd.prog 9 #[.pointer (some ⟨p, 0, none⟩), .int .i64 id] (Pq es w0 p mm F) (Pq es w0 p (mm + 1) (addF F id)) (erv es (addE F id)) := fun w X h => by
  obtain ⟨g1, g2, g3, g4, m, L, hP, rfl, hl, rfl⟩ := h
  exact (fadd_any g2 hP id hi (by rw [← pab_length L]; exact g4.inv.len)).mono fun _ _ ⟨h1, L', hR⟩ => ⟨h1, pqx g1 g2 g3 hP hl hR (g4.add hi)⟩
theorem pq_drp (hm : mm ≤ 900) (id : Int) (hi : Bt id) : Ct Tryd.prog 23 #[.pointer (some ⟨p, 0, none⟩), .int .i64 id] (Pq es w0 p mm F) (Pq es w0 p (mm + 1) (drpF F id)) (erv es (drpE F id)) := fun w X h => by
  obtain ⟨g1, g2, g3, g4, m, L, hP, rfl, hl, rfl⟩ := h
  exact (fdrop_any g2 g3 hP g4.nok (g4.few hm hP) id hi).mono fun _ _ ⟨h1, L', hR⟩ => ⟨h1, pqx g1 g2 g3 hP hl hR (g4.drp id)⟩
theorem pq_sub (hm : mm ≤ 900) (id y : Int) (hi : Bt id) (hj : Bt y) : Ct Tryd.prog 10 #[.pointer (some ⟨p, 0, none⟩), .int .i64 id, .int .i64 y] (Pq es w0 p mm F) (Pq es w0 p (mm + 1) (subFB F id y)) (erv es (subEB F id y)) := fun w X h => by
  obtain ⟨g1, g2, g3, g4, m, L, hP, rfl, hl, rfl⟩ := h
  have q := fsub_any g2 g3 hP g4.nok (g4.few hm hP) id y hi hj
  rw [g4.inv.subE, g4.inv.subF] at q
  exact q.mono fun _ _ ⟨h1, L', hR⟩ => ⟨h1, pqx g1 g2 g3 hP hl hR (by rw [← g4.inv.subF]; exact g4.sub id y)⟩
theorem pq_att (_hm : mm ≤ 900) (id b : Int) (hi : Bt id) (hb : Bt b) : Ct Tryd.prog 11 #[.pointer (some ⟨p, 0, none⟩), .int .i64 id, .int .i64 b] (Pq es w0 p mm F) (Pq es w0 p (mm + 1) (upd F id (attS b))) (erv es (hasE F id)) := fun w X h => by
  obtain ⟨g1, g2, g3, g4, m, L, hP, rfl, hl, rfl⟩ := h
  exact (fattach_any g2 hP id hi b).mono fun _ _ ⟨h1, L', hR⟩ => ⟨h1, pqx g1 g2 g3 hP hl hR (g4.att id hb)⟩
theorem pq_frm (hm : mm ≤ 900) (id b : Int) (hi : Bt id) : Ct Tryd.prog 46 #[.pointer (some ⟨p, 0, none⟩), .int .i64 id, .int .i64 b] (Pq es w0 p mm F) (Pq es w0 p (mm + 1) (upd F id (frmS b))) (erv es (hasE F id)) := fun w X h => by
  obtain ⟨g1, g2, g3, g4, m, L, hP, rfl, hl, rfl⟩ := h
  exact (fframe_any g2 hP id hi (fun e he => by have := (g4.len hm hP he).1.2.1; omega) b).mono fun _ _ ⟨h1, L', hR⟩ => ⟨h1, pqx g1 g2 g3 hP hl hR (g4.frm id b)⟩
theorem pq_pos (hm : mm ≤ 900) (id x y : Int) (hi : Bt id) : Ct Tryd.prog 20 #[.pointer (some ⟨p, 0, none⟩), .int .i64 id, .int .i64 x, .int .i64 y] (Pq es w0 p mm F) (Pq es w0 p (mm + 1) (posF F id x y)) (erv es (unsE F id)) := fun w X h => by
  obtain ⟨g1, g2, g3, g4, m, L, hP, rfl, hl, rfl⟩ := h
  exact (fpos_any g2 hP g4.nok (g4.few hm hP) id x y hi).mono fun _ _ ⟨h1, L', hR⟩ => ⟨h1, pqx g1 g2 g3 hP hl hR (g4.posn id x y)⟩
theorem pq_blw (hm : mm ≤ 900) (id y : Int) (hi : Bt id) : Ct Tryd.prog 21 #[.pointer (some ⟨p, 0, none⟩), .int .i64 id, .int .i64 y] (Pq es w0 p mm F) (Pq es w0 p (mm + 1) (putF F id y 0)) (erv es (putE F id y 0)) := fun w X h => by
  obtain ⟨g1, g2, g3, g4, m, L, hP, rfl, hl, rfl⟩ := h
  exact (fbelow_any g2 hP g4.nok (g4.few hm hP) id y hi).mono fun _ _ ⟨h1, L', hR⟩ => ⟨h1, pqx g1 g2 g3 hP hl hR (g4.put id y 0)⟩
theorem pq_syn (_hm : mm ≤ 900) (id : Int) (hi : Bt id) (on : Bool) : Ct Tryd.prog 18 #[.pointer (some ⟨p, 0, none⟩), .int .i64 id, .bool on] (Pq es w0 p mm F) (Pq es w0 p (mm + 1) (synF F id on)) (erv es (unsE F id)) := fun w X h => by
  obtain ⟨g1, g2, g3, g4, m, L, hP, rfl, hl, rfl⟩ := h
  exact (fsync_any g2 hP id hi (fun e he => (g4.nok.key id e he).2) on).mono fun _ _ ⟨h1, L', hR⟩ => ⟨h1, pqx g1 g2 g3 hP hl hR (g4.syn id on)⟩
theorem pq_com (hm : mm ≤ 900) (id : Int) (hi : Bt id) : Cq Tryd.prog 12 #[.pointer (some ⟨p, 0, none⟩), .int .i64 id] (Pq es w0 p mm F) (Pq es w0 p (mm + 1) (comB F id).1) (fun e w' => ∃ a c, e = .returned (.tuple #[.slice a (comB F id).2.length c, erv es (hasE F id)]) ∧ Rz w' a (comB F id).2.length c (comB F id).2) := fun w X h => by
  obtain ⟨g1, g2, g3, g4, m, L, hP, rfl, hl, rfl⟩ := h
  refine (fcommit_any hm g2 g3 hP g4 id hi).mono fun e w' ⟨L', vl, h1, h2, hR⟩ => ?_
  rw [g4.inv.comF] at h2 hR
  obtain ⟨a, c, rfl, hr⟩ := own_rz0 h2
  exact ⟨⟨a, c, h1, hr⟩, pqx g1 g2 g3 hP hl hR (by rw [← g4.inv.comF]; exact g4.com 41 id)⟩
end Go.Proofs.YtdgknofpkafppaaDoor
