/- Lemmas that the proof leans on. -/
import Derived.Test.YtkjempffidndeaaGreatDoorB25
import Derived.Shelf.RegionOpen
import Derived.LoopIn
namespace Go.Proofs.YtkjempffidndeaaGreatDoor
open Go Go.RowKit
open List renaming getElem_toArray → lqA, getElem_cons_zero → lqB, getElem_cons_succ → lqC, setIfInBounds_toArray → lqD, set_cons_zero → lqE, set_cons_succ → lqF
set_option maxRecDepth 100000
set_option maxHeartbeats 4000000
section
variable {base B : Nat} {w u w' : World} {p m : Nat} {L L' : Po} {F : Fo} {id : Int} {es : List Addr} {e : Ps}
theorem own_empty (w : World) (T : TypeId) (k : Nat) : (w.alloc (.cells #[] T)).ownsRow w.heap.size T k (.slice (some ⟨w.heap.size, 0, none⟩) 0 0) 0 [] :=
 ⟨by simp, .inr ⟨w.heap.size, 0, #[], rfl, Nat.le_refl _, (bk_new w #[] T).obj, Nat.le_refl _, Nat.zero_le _, by simp, by simp⟩⟩
theorem eql_nil0 (w : World) : (binOp BinOp.eql 55 (.slice none 0 0) (.slice none 0 0)).run Tryz.prog w = .ok (.bool true) w := by kernel_rfl
theorem eql_nil1 (x : Addr) (n c : Nat) (w : World) : (binOp BinOp.eql 55 (.slice (some x) n c) (.slice none 0 0)).run Tryz.prog w = .ok (.bool false) w := by kernel_rfl
theorem rclone_any (s : Option Addr) (n c : Nat) (l : List (List Int)) (w : World) (hr : RdM 4 w s n c l) (hn : n ≤ 1000000) :
  Calls Tryz.prog 92 #[.slice s n c] w fun e w' => ∃ v, e = .returned v ∧ OwM 4 54 w w' v l := by
 obtain ⟨i0, hi, hz0, hz1, hz2⟩ := infoMP infoM4
 have HL := hid hr.len
 have HK := hid hr.size
 have hb := bel_new w (.cells #[] 54)
 have HS := hid ((hr.on hb).src (P := Tryz.prog) (t := 55) (e := 54) Tryz.underlying55)
 have HO := hid (own_empty w 54 4)
 have HB := hid hb
 cases s with
 | none =>
  have h1 := hr.hnil rfl
  have h2 := hr.le
  obtain rfl : n = 0 := by omega
  obtain rfl : c = 0 := h1
  have q0 := eql_nil0
  obtain rfl : l = [] := List.eq_nil_of_length_eq_zero HL.out
  clear hr hb HS HO
  go_enter Tryz.func92, Tryz.ntmps92
  go_wp2
  go_ret
  exact ⟨_, rfl, World.ownsRow_nil _ _ _ _, Below.refl _ _, HK.out⟩
 | some x =>
  have q0 := eql_nil1
  clear hr hb
  go_enter Tryz.func92, Tryz.ntmps92
  go_wp2_with (at_builtin; refine wpList_append_own_src _ rfl (.tmp 5) (.tmp 6) 55 55 rfl w.heap.size 54 i0 (.agg #[.int .i64 0, .int .i64 0, .int .i64 0, .int .i64 0]) 4 32 Tryz.underlying55 hi hz0 hz1 hz2 rfl _ _ _ rfl HO.out _ _ _ rfl HS.out (by simp only [maxLen]; omega) (fitsM (by omega) (by decide)) HB.out.size ?_; intro v3 w3 o3 g3; have HO3 := hid o3; have HG3 := hid g3; clear o3 g3)
  go_ret
  have h3 := HO3.out
  rw [Nat.zero_add, List.nil_append] at h3
  refine ⟨_, rfl, by rw [HL.out]; exact h3, ?_, HK.out⟩
  exact HB.out.trans ((kp_of_grown HG3.out).below HB.out.size (fun k hk => Nat.le_of_eq (List.mem_singleton.1 (show k ∈ [w.heap.size] from hk)).symm))
theorem own_fy {w : World} {D T k n : Nat} {s : Sl} {xs : List Value} (o : w.ownsRow D T k s.v n xs) (y : Addr) (hy : s.a = some y) : D ≤ y.block := by
 rcases o.2 with ⟨h, _⟩ | ⟨g, cap, cur, h, hg, _⟩
 ·simp only [Sl.v, Value.slice.injEq] at h
  rw [h.1] at hy
  cases hy
 ·simp only [Sl.v, Value.slice.injEq] at h
  rw [h.1] at hy
  cases hy
  exact hg
theorem fin1_any {w0 : World} (h : Pf base w0 p m L) (he : gt L id = some e) (hb : Below w0.heap.size w0 w) (ca cb : Nat) (a : Bool) (l : Sl) (hl : RdM 4 w l.a l.n l.c l.l) (hn : l.n ≤ 1000000) (hca : w.cell? ⟨ca, 0, none⟩ = some (.bool a)) (hcb : w.cell? ⟨cb, 0, none⟩ = some (.slice l.a l.n l.c)) (_hce : ca ≠ e.g) (_hcf : cb ≠ e.g) (hle : l.Frb e.g) :
  Calls Tryz.prog 91 (#[.pointer (some ⟨e.g, 0, none⟩)] ++ #[.pointer (some ⟨ca, 0, none⟩), .pointer (some ⟨cb, 0, none⟩)]) w fun e' w' => e' = .returned undef ∧ ∃ L', PfR base w0 p m L (upd (pab L) id (inpS a l.l)) w' L' := by
 have hbd : Below w0.heap.size w0 w.drew := Below.on hb (Below.refl _ _).drew
 have HK : Hid (Kp [e.g] w.drew (((w.drew.setCell ⟨e.g, 4, none⟩ (.bool true)).setCell ⟨e.g, 5, none⟩ (.bool a)).setCell ⟨e.g, 6, none⟩ (.slice none 0 0))) := ((kp1 _ _ _ _).s1 _ _).s1 _ _
 have HR1 := hid (h.putIn he hbd a sl0 (RdM.nil _ _) (fun y hy => by cases hy) HK.out (((((h.on hbd).bk he).set 4 (.bool true)).set 5 (.bool a)).set 6 (.slice none 0 0)) [] (by cases a <;> rfl))
 have hw := h.on hb
 have c4 : w.cell? ⟨e.g, 4, none⟩ = some (.bool e.s.pe.inp) := hw.cell he
 have c5 : w.cell? ⟨e.g, 5, none⟩ = some (.bool e.s.pe.all) := hw.cell he
 have c6 : w.cell? ⟨e.g, 6, none⟩ = some (.slice e.s.pe.rg.a e.s.pe.rg.n e.s.pe.rg.c) := hw.cell he
 have f1 := hw.fz he
 have hlt := (hw.wlt he (mem_wb.2 (.inl rfl))).2
 have hlc := World.block_lt_of_cell? _ _ hca
 have hld := World.block_lt_of_cell? _ _ hcb
 have CL := hid (rclone_any l.a l.n l.c l.l _ (rd_far (hl.on (Below.refl _ _).drew) HK.out (fun b hb => by simp only [List.mem_singleton] at hb; rw [hb]; exact hle)) hn)
 have HEE := hid he
 clear hw h hb hl hle he
 cases a with
 | true =>
  go_enter Tryz.func91, Tryz.ntmps91
  go_wp2_with fail
  go_region
  go_wp2_with fail
  go_end0
  exact ⟨rfl, _, HR1.out⟩
 | false =>
  go_enter Tryz.func91, Tryz.ntmps91
  go_wp2_with fail
  go_region
  go_wp2_with fail
  refine CL.out.mono ?_
  rintro e' w2 ⟨v, rfl, hv⟩
  obtain ⟨s, rfl, hsn, hsl, hsr, hso⟩ := own_sl hv.own rfl hv.size
  have hP1 := HR1.out.pf
  have he1 : gt (st L id ⟨e.g, { e.s with pe := { e.s.pe with inp := true, all := false, rg := sl0 } }⟩) id = some ⟨e.g, { e.s with pe := { e.s.pe with inp := true, all := false, rg := sl0 } }⟩ := by rw [gt_st, if_pos rfl, HEE.out]; rfl
  have HR2 := hid (hP1.putIn he1 hv.bel false s hsr (fun y hy _ => own_fy hso y hy) (kp1 _ _ 6 s.v) (((hP1.on hv.bel).bk he1).set 6 s.v) l.l hsl)
  have HF := hid (HR1.out.trans HR2.out)
  have c7 : w2.cell? ⟨e.g, 6, none⟩ = some (.slice none 0 0) := (hP1.on hv.bel).cell he1
  have f2 := (hP1.on hv.bel).fz he1
  have hl2 := ((hP1.on hv.bel).wlt he1 (mem_wb.2 (.inl rfl))).2
  have HAB := hid HR1.out.ab
  rw [Sl.v] at HF
  rw [Sl.v]
  clear hsn hsl hsr hso hv hP1 he1 HR2 HR1 CL HK
  go_wp2_with fail
  go_end0
  refine ⟨rfl, _, HF.out.as ?_⟩
  rw [HAB.out, upd_upd]
  rfl
theorem finput_any (hE : Fe w es) (h : Pf base w p m L) (id : Int) (hi : Bt id) (a : Bool) (l : Sl) (hl : RdM 4 w l.a l.n l.c l.l) (hn : l.n ≤ 1000000) (hf : ∀ e, gt L id = some e → l.Frb e.g) :
  Calls Tryz.prog 46 #[.pointer (some ⟨p, 0, none⟩), .int .i64 id, .bool a, .slice l.a l.n l.c] w fun e w' => e = .returned (erv es (hasE (pab L) id)) ∧ ∃ L', PfR base w p m L (upd (pab L) id (inpS a l.l)) w' L' := by
 have hb1 := bel_new w (.cells #[.bool a] 4)
 have hb2 := bel_new (w.alloc (.cells #[.bool a] 4)) (.cells #[.slice l.a l.n l.c] 55)
 have hb := Below.on hb1 hb2
 have hk1 := (bk_new w #[.bool a] 4).on hb2
 have hk2 := bk_new (w.alloc (.cells #[.bool a] 4)) #[.slice l.a l.n l.c] 55
 rw [size_new] at hk2
 have HT := hid (fturn_any (hE.on hb) (h.on hb) id hi 91 #[.pointer (some ⟨w.heap.size, 0, none⟩), .pointer (some ⟨w.heap.size + 1, 0, none⟩)] (enters_of Tryz.func91 (by kernel_rfl) rfl) (fun w' => ∃ L', PfR base w p m L (upd (pab L) id (inpS a l.l)) w' L')
  (fun hq q => ⟨L, (PfR.refl h (Below.on hb (below_drewN (Below.refl _ _) q))).as (by rw [upd, gt_pab, hq]; rfl)⟩)
  (fun e he q => fin1_any h he (Below.on hb (below_drewN (Below.refl _ _) q)) w.heap.size (w.heap.size + 1) a l (hl.on (Below.on hb (below_drewN (Below.refl _ _) q))) hn ((hk1.on (below_drewN (Below.refl _ _) q)).cell 0) ((hk2.on (below_drewN (Below.refl _ _) q)).cell 0) (fun e1 => by have := (h.wlt he (mem_wb.2 (.inl rfl))).2; omega) (fun e1 => by have := (h.wlt he (mem_wb.2 (.inl rfl))).2; omega) (hf e he)))
 clear hE h hb hb1 hb2 hk1 hk2 hl hf
 go_enter Tryz.func46, Tryz.ntmps46
 go_wp2_with fail
 refine HT.out.mono ?_
 rintro e w1 ⟨rfl, hx⟩
 have HX := hid hx
 clear hx
 go_wp2
 go_ret
 exact ⟨rfl, HX.out⟩
end
section
def rbs (L : Po) : List Nat := L.flatMap fun e => (ros e.2.s).flatMap fun z => if 0 < z.n then z.bl else []
theorem mem_rbs {L : Po} (hn : (keys L).Nodup) {b : Nat} : b ∈ rbs L ↔ ¬ Ofr L b := by
 rw [rbs, List.mem_flatMap]
 constructor
 ·rintro ⟨e, he, hb⟩ ho
  obtain ⟨z, hz, hb⟩ := List.mem_flatMap.1 hb
  split at hb
  ·rename_i h0
   obtain ⟨y, hy, e1⟩ := bl_of.1 hb
   exact ho e.1 e.2 (gt_of_mem hn he) z hz y hy h0 e1
  ·cases hb
 ·intro h
  obtain ⟨x, h⟩ := Classical.not_forall.1 h
  obtain ⟨e, h⟩ := Classical.not_forall.1 h
  obtain ⟨he, h⟩ := Classical.not_imp.1 h
  obtain ⟨z, h⟩ := Classical.not_forall.1 h
  obtain ⟨hz, h⟩ := Classical.not_imp.1 h
  obtain ⟨y, h⟩ := Classical.not_forall.1 h
  obtain ⟨hy, h⟩ := Classical.not_imp.1 h
  obtain ⟨h0, h⟩ := Classical.not_imp.1 h
  refine ⟨(x, e), gt_mem he, List.mem_flatMap.2 ⟨z, hz, ?_⟩⟩
  rw [if_pos h0]
  exact bl_of.2 ⟨y, hy, Classical.not_not.1 h⟩
def fbl (p m : Nat) (L : Po) : List Nat := p :: m :: (wbs L ++ rbs L)
theorem mem_fbl {p m : Nat} {L : Po} {b : Nat} : b ∈ fbl p m L ↔ b = p ∨ b = m ∨ b ∈ wbs L ∨ b ∈ rbs L := by
 rw [fbl, List.mem_cons, List.mem_cons, List.mem_append]
def Pq (es : List Addr) (w0 : World) (p mm : Nat) (F : Fo) : Th := fun w X => RowKit.Below w0.heap.size w0 w ∧ Fe w es ∧ 16 ≤ w0.heap.size ∧ Fok mm F ∧ ∃ m L, Pf w0.heap.size w p m L ∧ pab L = F ∧ (∀ b, b < w0.heap.size → Ofr L b) ∧ X = fbl p m L
variable {X : List Nat} {es : List Addr} {w0 w w' : World} {p mm : Nat} {F : Fo}
theorem Pf.rlt {base m : Nat} {L : Po} (h : Pf base w p m L) {b : Nat} (hb : b ∈ rbs L) : b < w.heap.size := by
 rcases Nat.lt_or_ge b w.heap.size with h1 | h1
 ·exact h1
 ·exact absurd (fun x e he z hz => (h.rows x e he).ros hz h1) ((mem_rbs h.nd).1 hb)
theorem pq_ft (es : List Addr) (w0 : World) (p mm : Nat) (F : Fo) : Ft w0.heap.size (Pq es w0 p mm F) := by
 refine ⟨fun {w X} h b hb => ?_, fun {w w' X Y} h hk hY hX => ?_⟩
 ·obtain ⟨_, _, _, _, m, L, h1, _, h3, rfl⟩ := h
  rcases mem_fbl.1 hb with rfl | rfl | hb | hb
  ·exact ⟨h1.lop, h1.lt.1⟩
  ·exact ⟨h1.lom, h1.lt.2⟩
  ·obtain ⟨x, e, he, hb⟩ := (mem_wbs h1.nd).1 hb
   exact h1.wlt he hb
  ·refine ⟨?_, h1.rlt hb⟩
   rcases Nat.lt_or_ge b w0.heap.size with h4 | h4
   ·exact absurd (h3 b h4) ((mem_rbs h1.nd).1 hb)
   ·exact h4
 ·obtain ⟨g1, g2, g3, g4, m, L, h1, h2, h3, rfl⟩ := h
  have hb := hk.below g1.size hY
  refine ⟨g1.trans hb, g2.kb hb g3, g3, g4, m, L, h1.kept hk (hX p (mem_fbl.2 (.inl rfl))) (hX m (mem_fbl.2 (.inr (.inl rfl)))) (fun x e he => ⟨fun b hb => hX b (mem_fbl.2 (.inr (.inr (.inl ((mem_wbs h1.nd).2 ⟨x, e, he, hb⟩))))), fun z hz b hb => ?_⟩), h2, h3, rfl⟩
  have hnr : b ∉ rbs L := fun hm => hX b (mem_fbl.2 (.inr (.inr (.inr hm)))) hb
  have ho : Ofr L b := Classical.not_not.1 fun h => hnr ((mem_rbs h1.nd).2 h)
  exact ho x e he z hz
theorem Pq.pg (h : Pq es w0 p mm F w X) : Pg es w0 w p mm F := by
 obtain ⟨g1, g2, g3, g4, m, L, h1, h2, _⟩ := h
 exact ⟨⟨m, L, h1, h2⟩, g4, g2, g3, g1⟩
theorem pq_mono {n : Nat} (h : Pq es w0 p mm F w X) (hn : mm ≤ n) : Pq es w0 p n F w X := by
 obtain ⟨g1, g2, g3, g4, h⟩ := h
 exact ⟨g1, g2, g3, g4.mono hn, h⟩
theorem pqx {m : Nat} {L L' : Po} {G : Fo} {n : Nat} (g1 : RowKit.Below w0.heap.size w0 w) (g2 : Fe w es) (g3 : 16 ≤ w0.heap.size) (hP : Pf w0.heap.size w p m L) (hl : ∀ b, b < w0.heap.size → Ofr L b) (hR : PfR w0.heap.size w p m L G w' L') (hok : Fok n G) : Nx (Pq es w0 p n G) (fbl p m L) w w' := by
 have hb := hR.bel hP
 refine ⟨fbl p m L', ⟨g1.trans hb, g2.kb hb g3, g3, hok, m, L', hR.pf, hR.ab, fun b h => hR.ofr b (Nat.lt_of_lt_of_le h g1.size) (hl b h), rfl⟩, hR.kp.mono (fun b hb _ => ?_), fun b hb => ?_⟩
 ·rcases List.mem_cons.1 hb with rfl | hb
  ·exact mem_fbl.2 (.inr (.inl rfl))
  ·exact mem_fbl.2 (.inr (.inr (.inl hb)))
 ·rcases mem_fbl.1 hb with rfl | rfl | hb | hb
  ·exact .inl (mem_fbl.2 (.inl rfl))
  ·exact .inl (mem_fbl.2 (.inr (.inl rfl)))
  ·exact (hR.new b hb).imp (fun h => mem_fbl.2 (.inr (.inr (.inl h)))) id
  ·rcases Nat.lt_or_ge b w.heap.size with h1 | h1
   ·by_cases ho : Ofr L b
    ·exact absurd (hR.ofr b h1 ho) ((mem_rbs hR.pf.nd).1 hb)
    ·exact .inl (mem_fbl.2 (.inr (.inr (.inr ((mem_rbs hP.nd).2 ho)))))
   ·exact .inr h1
theorem pq_new (w0 w : World) (hb : Below w0.heap.size w0 w) (hE : Fe w es) (hn : 16 ≤ w0.heap.size) : Calls Tryz.prog 17 #[] w fun e w' => ∃ p X, e = .returned (.pointer (some ⟨p, 0, none⟩)) ∧ Pq es w0 p 0 [] w' X ∧ Below w.heap.size w w' ∧ ∀ b ∈ X, w.heap.size ≤ b :=
 (fnew_any w).mono fun _ _ ⟨h1, h2, h3⟩ => ⟨_, _, h1, ⟨Below.on hb h2, hE.on h2, hn, fok_nil, _, _, h3 _ hb.size, rfl, fun b _ x e h => (by cases h), rfl⟩, h2, fun b hb => by
  simp only [fbl, wbs, rbs, List.flatMap_nil, List.append_nil, List.mem_cons, List.not_mem_nil, or_false] at hb
  omega⟩
theorem pq_add (_hm : mm ≤ 900) (id : Int) (hi : Bt id) : Ct Tryz.prog 19 #[.pointer (some ⟨p, 0, none⟩), .int .i64 id] (Pq es w0 p mm F) (Pq es w0 p (mm + 1) (addF F id)) (erv es (addE F id)) := fun w X h => by
 obtain ⟨g1, g2, g3, g4, m, L, hP, rfl, hl, rfl⟩ := h
 exact (fadd_any g2 hP id hi (by rw [← pab_length L]; exact g4.inv.len)).mono fun _ _ ⟨h1, L', hR⟩ => ⟨h1, pqx g1 g2 g3 hP hl hR (g4.add hi)⟩
theorem pq_drp (hm : mm ≤ 900) (id : Int) (hi : Bt id) : Ct Tryz.prog 36 #[.pointer (some ⟨p, 0, none⟩), .int .i64 id] (Pq es w0 p mm F) (Pq es w0 p (mm + 1) (drpF F id)) (erv es (drpE F id)) := fun w X h => by
 obtain ⟨g1, g2, g3, g4, m, L, hP, rfl, hl, rfl⟩ := h
 exact (fdrop_any g2 g3 hP g4.nok (g4.few hm hP) id hi).mono fun _ _ ⟨h1, L', hR⟩ => ⟨h1, pqx g1 g2 g3 hP hl hR (g4.drp id)⟩
theorem pq_sub (hm : mm ≤ 900) (id y : Int) (hi : Bt id) (hj : Bt y) : Ct Tryz.prog 38 #[.pointer (some ⟨p, 0, none⟩), .int .i64 id, .int .i64 y] (Pq es w0 p mm F) (Pq es w0 p (mm + 1) (subFB F id y)) (erv es (subEB F id y)) := fun w X h => by
 obtain ⟨g1, g2, g3, g4, m, L, hP, rfl, hl, rfl⟩ := h
 have q := fsub_any g2 g3 hP g4.nok (g4.few hm hP) id y hi hj
 rw [g4.inv.subE, g4.inv.subF] at q
 exact q.mono fun _ _ ⟨h1, L', hR⟩ => ⟨h1, pqx g1 g2 g3 hP hl hR (by rw [← g4.inv.subF]; exact g4.sub id y)⟩
theorem pq_uns (hm : mm ≤ 900) (id : Int) (hi : Bt id) : Ct Tryz.prog 40 #[.pointer (some ⟨p, 0, none⟩), .int .i64 id] (Pq es w0 p mm F) (Pq es w0 p (mm + 1) (unsF F id)) (erv es (unsE F id)) := fun w X h => by
 obtain ⟨g1, g2, g3, g4, m, L, hP, rfl, hl, rfl⟩ := h
 exact (funsub_any g2 g3 hP g4.nok (g4.few hm hP) id hi).mono fun _ _ ⟨h1, L', hR⟩ => ⟨h1, pqx g1 g2 g3 hP hl hR (g4.uns id)⟩
theorem pq_att (_hm : mm ≤ 900) (id b : Int) (hi : Bt id) (hb : Bt b) : Ct Tryz.prog 20 #[.pointer (some ⟨p, 0, none⟩), .int .i64 id, .int .i64 b] (Pq es w0 p mm F) (Pq es w0 p (mm + 1) (upd F id (attS b))) (erv es (hasE F id)) := fun w X h => by
 obtain ⟨g1, g2, g3, g4, m, L, hP, rfl, hl, rfl⟩ := h
 exact (fattach_any g2 hP id hi b).mono fun _ _ ⟨h1, L', hR⟩ => ⟨h1, pqx g1 g2 g3 hP hl hR (g4.att id hb)⟩
theorem pq_dmg (hm : mm ≤ 900) (id : Int) (hi : Bt id) (z0 z1 z2 z3 : Int) : Ct Tryz.prog 43 #[.pointer (some ⟨p, 0, none⟩), .int .i64 id, .agg #[.int .i64 z0, .int .i64 z1, .int .i64 z2, .int .i64 z3]] (Pq es w0 p mm F) (Pq es w0 p (mm + 1) (upd F id (dmgS [z0, z1, z2, z3]))) (erv es (hasE F id)) := fun w X h => by
 obtain ⟨g1, g2, g3, g4, m, L, hP, rfl, hl, rfl⟩ := h
 exact (fdamage_any g2 hP id hi (fun e he => by have := (g4.len hm hP he).1.1; omega) z0 z1 z2 z3).mono fun _ _ ⟨h1, L', hR⟩ => ⟨h1, pqx g1 g2 g3 hP hl hR (g4.dmg id _)⟩
theorem pq_frm (hm : mm ≤ 900) (id b : Int) (hi : Bt id) : Ct Tryz.prog 45 #[.pointer (some ⟨p, 0, none⟩), .int .i64 id, .int .i64 b] (Pq es w0 p mm F) (Pq es w0 p (mm + 1) (upd F id (frmS b))) (erv es (hasE F id)) := fun w X h => by
 obtain ⟨g1, g2, g3, g4, m, L, hP, rfl, hl, rfl⟩ := h
 exact (fframe_any g2 hP id hi (fun e he => by have := (g4.len hm hP he).1.2.1; omega) b).mono fun _ _ ⟨h1, L', hR⟩ => ⟨h1, pqx g1 g2 g3 hP hl hR (g4.frm id b)⟩
theorem pq_pos (hm : mm ≤ 900) (id x y : Int) (hi : Bt id) : Ct Tryz.prog 47 #[.pointer (some ⟨p, 0, none⟩), .int .i64 id, .int .i64 x, .int .i64 y] (Pq es w0 p mm F) (Pq es w0 p (mm + 1) (posF F id x y)) (erv es (unsE F id)) := fun w X h => by
 obtain ⟨g1, g2, g3, g4, m, L, hP, rfl, hl, rfl⟩ := h
 exact (fpos_any g2 hP g4.nok (g4.few hm hP) id x y hi).mono fun _ _ ⟨h1, L', hR⟩ => ⟨h1, pqx g1 g2 g3 hP hl hR (g4.posn id x y)⟩
theorem pq_abv (hm : mm ≤ 900) (id y : Int) (hi : Bt id) : Ct Tryz.prog 49 #[.pointer (some ⟨p, 0, none⟩), .int .i64 id, .int .i64 y] (Pq es w0 p mm F) (Pq es w0 p (mm + 1) (putF F id y 1)) (erv es (putE F id y 1)) := fun w X h => by
 obtain ⟨g1, g2, g3, g4, m, L, hP, rfl, hl, rfl⟩ := h
 exact (fabove_any g2 hP g4.nok (g4.few hm hP) id y hi).mono fun _ _ ⟨h1, L', hR⟩ => ⟨h1, pqx g1 g2 g3 hP hl hR (g4.put id y 1)⟩
theorem pq_blw (hm : mm ≤ 900) (id y : Int) (hi : Bt id) : Ct Tryz.prog 51 #[.pointer (some ⟨p, 0, none⟩), .int .i64 id, .int .i64 y] (Pq es w0 p mm F) (Pq es w0 p (mm + 1) (putF F id y 0)) (erv es (putE F id y 0)) := fun w X h => by
 obtain ⟨g1, g2, g3, g4, m, L, hP, rfl, hl, rfl⟩ := h
 exact (fbelow_any g2 hP g4.nok (g4.few hm hP) id y hi).mono fun _ _ ⟨h1, L', hR⟩ => ⟨h1, pqx g1 g2 g3 hP hl hR (g4.put id y 0)⟩
theorem pq_syn (_hm : mm ≤ 900) (id : Int) (hi : Bt id) (on : Bool) : Ct Tryz.prog 100 #[.pointer (some ⟨p, 0, none⟩), .int .i64 id, .bool on] (Pq es w0 p mm F) (Pq es w0 p (mm + 1) (synF F id on)) (erv es (unsE F id)) := fun w X h => by
 obtain ⟨g1, g2, g3, g4, m, L, hP, rfl, hl, rfl⟩ := h
 exact (fsync_any g2 hP id hi (fun e he => (g4.nok.key id e he).2) on).mono fun _ _ ⟨h1, L', hR⟩ => ⟨h1, pqx g1 g2 g3 hP hl hR (g4.syn id on)⟩
theorem pq_tak (_hm : mm ≤ 900) (id : Int) (hi : Bt id) : Cq Tryz.prog 53 #[.pointer (some ⟨p, 0, none⟩), .int .i64 id] (Pq es w0 p mm F) (Pq es w0 p (mm + 1) (upd F id takS)) (fun e w' => ∃ l : Sl, e = .returned (.slice l.a l.n l.c) ∧ l.l = takL F id ∧ RdM 1 w' l.a l.n l.c l.l) := fun w X h => by
 obtain ⟨g1, g2, g3, g4, m, L, hP, rfl, hl, rfl⟩ := h
 exact (ftake_any g2 hP id hi).mono fun _ _ ⟨l, h1, h2, h3, L', hR⟩ => ⟨⟨l, h1, h2, h3⟩, pqx g1 g2 g3 hP hl hR (g4.tak id)⟩
theorem pq_inp (h : Pq es w0 p mm F w X) (id : Int) (hi : Bt id) (a : Bool) (l : Sl) (hl : RdM 4 w l.a l.n l.c l.l) (hn : l.n ≤ 20) (hx : ∀ y, l.a = some y → 0 < l.n → y.block ∉ X) :
  Calls Tryz.prog 46 #[.pointer (some ⟨p, 0, none⟩), .int .i64 id, .bool a, .slice l.a l.n l.c] w fun e w' => e = .returned (erv es (hasE F id)) ∧ Nx (Pq es w0 p (mm + 1) (upd F id (inpS a l.l))) X w w' := by
 obtain ⟨g1, g2, g3, g4, m, L, hP, rfl, hlo, rfl⟩ := h
 exact (finput_any g2 hP id hi a l hl (by omega) (fun e he y hy h0 e1 => hx y hy h0 (mem_fbl.2 (.inr (.inr (.inl (wb_wbs hP he (mem_wb.2 (.inl e1))))))))).mono fun _ _ ⟨h1, L', hR⟩ => ⟨h1, pqx g1 g2 g3 hP hlo hR (g4.inp id a (by rw [hl.len]; exact hn))⟩
end
section
open Go Go.RowKit Go.Shelf
attribute [local go_sem] Oper.semAt_some
def encY (y : List Int) : Array Value := #[.agg (y.map (Value.int .i64)).toArray]
def encI (z : Int) : Array Value := #[.int .i64 z]
structure KV (w : World) (gr gf p : Nat) (a : Option Addr) (n c : Nat) (W : World) : Prop where
 r : W.cell? ⟨gr, 0, none⟩ = some (.slice a n c)
 f : W.cell? ⟨gf, 0, none⟩ = some (.pointer (some ⟨p, 0, none⟩))
 bel : Below w.heap.size w W
theorem RdM.rnd {m D : Nat} {X : List Nat} {w u : World} {a : Option Addr} {n c : Nat} {l : List (List Int)} (h : RdM m w a n c l) (hb : Rnd D X w u) (hD : ∀ x, a = some x → 0 < n → D ≤ x.block ∧ x.block ∉ X) : RdM m u a n c l :=
 ⟨h.len, h.le, h.max, h.hnil, fun hn => by
  obtain ⟨b, off, e, h1, h2⟩ := h.pl hn
  obtain ⟨h3, h4⟩ := hD ⟨b, off, none⟩ e hn
  refine ⟨b, off, e, Nat.lt_of_lt_of_le h1 hb.size, fun j y hy i z hz => ?_⟩
  rw [← h2 j y hy i z hz]
  simp only [World.cell?, hb.block b h3 h1 h4], h.size⟩
theorem Pg.wlkN {es : List Addr} {w0 w : World} {p mm : Nat} {F : Fo} (h : Pg es w0 w p mm F) (id : Int) (hi : Bt id) : Calls Tryz.prog 67 #[.pointer (some ⟨p, 0, none⟩), .int .i64 id] w fun e w' => ∃ a c, e = .returned (.slice a (Proofs.YtkjempffidndeaaGreatDoor.wlk F 41 id 0 0).length c) ∧ RdM 3 w' a (Proofs.YtkjempffidndeaaGreatDoor.wlk F 41 id 0 0).length c (Proofs.YtkjempffidndeaaGreatDoor.wlk F 41 id 0 0) ∧ (∀ x, a = some x → w.heap.size ≤ x.block) ∧ Below w.heap.size w w' := by
 obtain ⟨m, L, hP, rfl⟩ := h.ex
 refine (fwalk_any h.fe h.ng hP h.ok id hi).mono fun e w' ⟨v, h1, h2, hR⟩ => ?_
 obtain ⟨a, c, rfl, hr, hx⟩ := OwM.rd (w := w) (e := 46) ⟨h2, hR, wlk_size _ _ _ _⟩
 exact ⟨a, c, h1, hr, fun x hx' => (hx x hx').1, hR⟩
theorem seen_hands {es : List Addr} {w0 w : World} {p mm : Nat} {F : Fo} (hP : Pg es w0 w p mm F) (gr gf : Nat) (a : Option Addr) (n c : Nat) (rs : List (List Int)) (hr : RdM 3 w a n c rs) (hbt : ∀ r ∈ rs, ∀ z ∈ r, Bt z) :
  HandsX Tryz.prog 65 #[] #[.pointer (some ⟨gr, 0, none⟩), .pointer (some ⟨gf, 0, none⟩)] encY (snL F rs) (KV w gr gf p a n c) := fun dd l J Jx W hK hX hJ _ hY h0 => by
 have hk0 := hK 0 [] W h0
 have c0 := hk0.r
 have hn := hr.small
 have HN := hid hr.len
 have HY := hid hY
 have HJ := hid hJ
 have HX := hid hX
 have HK := hid hK
 have HR := hid hr
 have HP := hid hP
 have HBT := hid hbt
 have hsz := hP.ok.szf
 have HSZ := hid hsz
 clear hK hX hJ hY hr hP hbt hk0 hsz
 refine callsIn_of_wp Tryz.func65 rfl trivial ?_ rfl
 simp only [Tryz.ntmps65, List.size_toArray, List.length_cons, List.length_nil, Nat.reduceAdd, Nat.reduceSub, Array.replicate_succ, Array.replicate_zero, List.push_toArray, List.append_toArray, List.nil_append, List.cons_append]
 gi_wp2
 gi_loopw [12] (fun i wr => ∃ j : Nat, i = .int .i64 j ∧ j ≤ n ∧ W.heap.size ≤ wr.heap.size ∧ ∃ X, J (snL F (rs.take j)).length X wr) (fun i _ => n - (numOf i).toNat)
 case atStart => exact ⟨0, rfl, by omega, Nat.le_refl _, [], h0⟩
 case round =>
  obtain ⟨j, rfl, hj, hsw, X, hJ1⟩ := hrel
  obtain ⟨N0, hN0⟩ : ∃ N0, N0 = (snL F (rs.take j)).length := ⟨_, rfl⟩
  rw [← hN0] at hJ1
  have HN0 := hid hN0
  clear hN0
  by_cases hgo : j < n
  ·have e1 : decide ((j : Int) < n) = true := decide_eq_true (by omega)
   have e2 : (j : Int) < n := by omega
   have hk1 := HK.out _ _ _ hJ1
   obtain ⟨b, off, z0, z1, z2, rfl, hb, hrj, d0, d1, d2⟩ := (HR.out.on hk1.bel).el3 hgo
   have hz := HBT.out _ (List.mem_of_getElem? hrj)
   have hz0 := hz z0 (by simp)
   obtain ⟨E1, hE1⟩ : ∃ E1, E1 = edg z1 := ⟨_, rfl⟩
   obtain ⟨E2, hE2⟩ : ∃ E2, E2 = edg z2 := ⟨_, rfl⟩
   have he1 := edg_le z1
   have he2 := edg_le z2
   have CT1 : Hid (∀ u : World, Calls Tryz.prog 66 #[.int .i64 z1] u fun e w' => e = .returned (.int .i64 E1) ∧ w' = u) := fun u => by rw [hE1]; exact vcut_any z1 (hz z1 (by simp)) u
   have CT2 : Hid (∀ u : World, Calls Tryz.prog 66 #[.int .i64 z2] u fun e w' => e = .returned (.int .i64 E2) ∧ w' = u) := fun u => by rw [hE2]; exact vcut_any z2 (hz z2 (by simp)) u
   rw [← hE1] at he1
   rw [← hE2] at he2
   obtain ⟨V, hV⟩ : ∃ V, V = (wr.alloc (.cells #[.int .i64 z0, .int .i64 z1, .int .i64 z2] 46)).drew := ⟨_, rfl⟩
   have hbV : RowKit.Below wr.heap.size wr V := by rw [hV]; exact (bel_new wr _).drew
   have hVs : V.heap.size = wr.heap.size + 1 := by rw [hV]; exact size_new _ _
   have hC : C3 V wr.heap.size 0 z0 z1 z2 := by
    rw [hV]
    have h1 := (rdm_lit wr [z0, z1, z2] rfl 46).drewN 1
    have h2 := bk_new wr #[.int .i64 z0, .int .i64 z1, .int .i64 z2] 46
    have h3 : C3 (wr.alloc (.cells #[.int .i64 z0, .int .i64 z1, .int .i64 z2] 46)) wr.heap.size 0 z0 z1 z2 := ⟨h2.lt, h2.cell 0, h2.cell 1, h2.cell 2⟩
    exact h3.on (Below.refl _ _).drew
   have hJV := HJ.out _ _ _ V hJ1 (itr_of_below hbV _)
   have hkV := HK.out _ _ _ hJV
   have hXV := HX.out _ _ _ hJV
   have CW := hid ((HP.out.on hkV.bel).wlkN z0 hz0)
   have hfV := hkV.f
   have hWN : Hid (Szf mm F) := HSZ.out
   have HF := hid (fun z hz => wlk_far0 HSZ.out z0 z hz)
   obtain ⟨L, hL⟩ : ∃ L, L = wlk F 41 z0 0 0 := ⟨_, rfl⟩
   rw [← hL] at CW HF
   have HL : Hid (∀ (i : Nat) (y : List Int), L[i]? = some y → (snL F rs)[N0 + i]? = some [nm 0 y, E1 + nm 1 y, E2 + nm 2 y]) := fun i y hy => by
    rw [hL] at hy
    have := snL_at (F := F) hrj (c := y) hy
    rw [HN0.out, hE1, hE2]
    exact this
   have HT : Hid (N0 + L.length = (snL F (rs.take (j + 1))).length) := by
    rw [Hid, snL_take hrj, List.length_append, HN0.out, hL, snr, List.length_map]
    rfl
   have hLs : L.length ≤ 40 := by
    rw [hL]
    exact Nat.le_trans (wlk_length HP.out.ok.inv HP.out.ok.nof _ _ _ _) (Nat.le_trans (dsc_le _ _) HP.out.ok.inv.len)
   clear hE1 hE2 hz hrj hL hWN hk1 hJ1 hkV c0
   have HVE := hid hV
   clear hV
   gi_wp2
   refine wpIn_wide.2 ?_
   refine wp_region_held_drew (S := fun u => C3 u wr.heap.size 0 z0 z1 z2) (by kernel_rfl) ?hh (fun hHeld => ?_)
   case hh => exact ((HVE.out ▸ hC))
   refine wpAnyH_take (i := 0) (v := ?_) rfl (by kernel_rfl) (by kernel_rfl) (by kernel_rfl) (fun _ _ _ h => h) (Or.inl ⟨by kernel_rfl, ?hy0⟩) (by assumption) ?_
   case hy0 => (intro w hSw; (try dsimp only at hSw); obtain ⟨_, f0, f1, f2⟩ := hSw; go_simp; try with_reducible rfl)
   try simp only [Act.put, lqA, lqB, lqD, lqE, lqF]
   refine wpAnyH_take (i := 1) (v := ?_) rfl (by kernel_rfl) (by kernel_rfl) (by kernel_rfl) (fun _ _ _ h => h) (Or.inl ⟨by kernel_rfl, ?hy1⟩) (by assumption) ?_
   case hy1 => (intro w hSw; (try dsimp only at hSw); obtain ⟨_, f0, f1, f2⟩ := hSw; go_simp; try with_reducible rfl)
   try simp only [Act.put, lqA, lqB, lqC, lqD, lqE, lqF]
   refine wpAnyH_take (i := 3) (v := ?_) rfl (by kernel_rfl) (by kernel_rfl) (by kernel_rfl) (fun _ _ _ h => h) (Or.inl ⟨by kernel_rfl, ?hy3⟩) (by assumption) ?_
   case hy3 => (intro w hSw; (try dsimp only at hSw); obtain ⟨_, f0, f1, f2⟩ := hSw; go_simp; try with_reducible rfl)
   try simp only [Act.put, lqA, lqB, lqC, lqD, lqE, lqF]
   refine wpAnyH_take (i := 4) (v := ?_) rfl (by kernel_rfl) (by kernel_rfl) (by kernel_rfl) (fun _ _ _ h => h) (Or.inl ⟨by kernel_rfl, ?hy4⟩) (by assumption) ?_
   case hy4 => (intro w hSw; (try dsimp only at hSw); obtain ⟨_, f0, f1, f2⟩ := hSw; go_simp; try with_reducible rfl)
   try simp only [Act.put, lqA, lqB, lqC, lqD, lqE, lqF]
   refine wpAnyH_ready (rs := [2]) (by kernel_rfl) (by simp) ?_
   refine AllReadyH.cons rfl (fun K hK => ?_) AllReadyH.nil
   go_simp
   go_wp2_with fail
   refine (CT1.out _).mono ?_
   rintro e u202 ⟨rfl, rfl⟩
   refine hK.out _ _ hHeld (fun _ => ?_)
   clear hK K
   refine wpAnyH_ready (rs := [5]) (by kernel_rfl) (by simp) ?_
   refine AllReadyH.cons rfl (fun K hK => ?_) AllReadyH.nil
   go_simp
   go_wp2_with fail
   refine (CT2.out _).mono ?_
   rintro e u205 ⟨rfl, rfl⟩
   refine hK.out _ _ hHeld (fun _ => ?_)
   clear hK K
   refine wpAnyH_take (i := 6) (v := ?_) rfl (by kernel_rfl) (by kernel_rfl) (by kernel_rfl) (fun _ _ _ h => h) (Or.inl ⟨by kernel_rfl, ?hy6⟩) (by assumption) ?_
   case hy6 => (intro w hSw; (try dsimp only at hSw); obtain ⟨_, f0, f1, f2⟩ := hSw; go_simp; try with_reducible rfl)
   try simp only [Act.put, lqA, lqB, lqC, lqD, lqE, lqF]
   refine wpAnyH_take (i := 7) (v := ?_) rfl (by kernel_rfl) (by kernel_rfl) (by kernel_rfl) (fun _ _ _ h => h) (Or.inl ⟨by kernel_rfl, ?hy7⟩) (by assumption) ?_
   case hy7 => (intro w hSw; (try dsimp only at hSw); obtain ⟨_, f0, f1, f2⟩ := hSw; go_simp; try with_reducible rfl)
   try simp only [Act.put, lqA, lqB, lqC, lqD, lqE, lqF]
   refine wpAnyH_done (by kernel_rfl) ?_ _
   rw [← HVE.out]
   obtain ⟨_, k0, k1, k2⟩ := hC
   clear HVE CT1 CT2 hHeld
   gi_wp2
   refine ⟨trivial, (fun q => nomatch q), (callsIn_wide.2 CW.out).mono ?_⟩
   rintro e W2 ⟨a2, c2, rfl, hr2, hx2, hb2⟩
   have hJ2 := HJ.out _ _ _ W2 hJV (itr_of_below hb2 _)
   have HX2 : Hid (∀ x, a2 = some x → W.heap.size ≤ x.block ∧ x.block ∉ X) := fun x hx => ⟨by have := hx2 x hx; omega, fun hm => by
    have h1 := hx2 x hx
    have h2 := hXV _ hm
    omega⟩
   have hs2 : W.heap.size ≤ W2.heap.size := by have := hb2.size; omega
   have hLn : (L.length : Int) ≤ 40 := by omega
   obtain ⟨NL, hNL⟩ : ∃ NL, NL = L.length := ⟨_, rfl⟩
   rw [← hNL] at hr2 HT hLs hLn
   have HNL := hid hNL
   clear hx2 hXV hJV hbV hVs hfV k0 k1 k2 d0 d1 d2 CW hb2
   rw [← HNL.out]
   obtain ⟨WO, rfl⟩ : ∃ WO, WO = wr := ⟨_, rfl⟩
   gi_wp2
   gi_loopw [27] (fun i wx => ∃ k : Nat, i = .int .i64 k ∧ k ≤ NL ∧ W.heap.size ≤ wx.heap.size ∧ RdM 3 wx a2 NL c2 L ∧ ∃ X', J (N0 + k) X' wx ∧ ∀ x, a2 = some x → W.heap.size ≤ x.block ∧ x.block ∉ X') (fun i _ => NL - (numOf i).toNat)
   case atStart => exact ⟨0, rfl, by omega, hs2, hr2, X, hJ2, HX2.out⟩
   case round =>
    obtain ⟨k, rfl, hk, hsx, hrx, Y, hJx, hYx⟩ := hrel
    by_cases hgk : k < NL
    ·have e3 : decide ((k : Int) < NL) = true := decide_eq_true (by omega)
     have e4 : (k : Int) < NL := by omega
     obtain ⟨b3, off3, y0, y1, y2, rfl, hb3, hrk, d0, d1, d2⟩ := hrx.el3 hgk
     obtain ⟨_, _, _, hey, hy1, hy2, hy3, hy4⟩ := HF.out _ (List.mem_of_getElem? hrk)
     cases hey
     have hxx := HL.out k _ hrk
     simp only [nm, List.getD_cons_zero, List.getD_cons_succ] at hxx
     have hbx := bel_new wr (.cells #[.int .i64 y0, .int .i64 y1, .int .i64 y2] 46)
     have hJ3 := HJ.out _ _ _ _ hJx (itr_of_below hbx _)
     have HR3 := hid (hrx.on hbx)
     obtain ⟨fn, tmps, assign, body, hy, hR⟩ := HY.out (dd - 1) _ Y _ _ hJ3 hxx
     simp only [encY, List.map_cons, List.map_nil] at hy
     have HRR := hid hR
     have HYX := hid hYx
     have HBX := hid hbx
     clear hR hxx hrk hrx hJx hJ3 hYx hbx
     gi_wp2
     refine ⟨(fun q => nomatch q), HRR.out.mono ?_⟩
     rintro e W3 ⟨hrd, (⟨rfl, X', hX', hJ4⟩ | ⟨rfl, hJx4⟩)⟩
     ·have hs3 := hrd.size
      have hs4 := HBX.out.size
      have HR4 := hid (HR3.out.rnd hrd (fun x hx _ => HYX.out x hx))
      have HX4 : Hid (∀ x, some (⟨b3, off3, none⟩ : Addr) = some x → W.heap.size ≤ x.block ∧ x.block ∉ X') := fun x hx => ⟨(HYX.out x hx).1, fun hm => by
       cases hx
       rcases hX' _ hm with h | h
       ·exact (HYX.out _ rfl).2 h
       ·simp only [World.size_alloc] at h
        omega⟩
      clear hrd hX'
      gi_wp2
      go_roundw
      case rel => exact ⟨k + 1, by go_num, by omega, by omega, HR4.out, X', hJ4, HX4.out⟩
      case measure => simp [numOf]; omega
     ·gi_wp2
      refine bodyPost_ret (results_none rfl _ _ _) rfl ?_
      exact ⟨⟨_, rfl⟩, .inr hJx4⟩
    ·have e3 : decide ((k : Int) < NL) = false := decide_eq_false (by omega)
     have e4 : ¬ (k : Int) < NL := by omega
     have hkN : k = NL := by omega
     have HJ5 : Hid (J (snL F (rs.take (j + 1))).length Y wr) := by rw [Hid, ← HT.out, ← hkN]; exact hJx
     clear hkN hJx hrx hYx
     gi_wp2
     go_roundw
     case rel => exact ⟨j + 1, by go_num, by omega, hsx, Y, HJ5.out⟩
     case measure => simp [numOf]; omega
  ·have e1 : decide ((j : Int) < n) = false := decide_eq_false (by omega)
   have e2 : ¬ (j : Int) < n := by omega
   gi_wp2
   go_end0
   exact ⟨⟨_, rfl⟩, .inl ⟨X, by rw [List.take_of_length_le (by rw [HN.out]; omega)] at HN0; rw [← HN0.out]; exact hJ1⟩⟩
end
end Go.Proofs.YtkjempffidndeaaGreatDoor
