/- Lemmas that the proof leans on. -/
import Derived.Test.YtdgknofpkafppaaGreatDoorB28
namespace Go.Proofs.YtdgknofpkafppaaGreatDoor
open Go Go.RowKit
set_option maxRecDepth 100000
set_option maxHeartbeats 1000000
section
abbrev Th := World → List Nat → Prop
structure Ft (B : Nat) (A : Th) : Prop where
 lt : ∀ {w : World} {X : List Nat}, A w X → ∀ b ∈ X, B ≤ b ∧ b < w.heap.size
 kept : ∀ {w w' : World} {X Y : List Nat}, A w X → Kp Y w w' → (∀ b ∈ Y, B ≤ b) → (∀ b ∈ X, b ∉ Y) → A w' X
def Nx (A : Th) (X : List Nat) (w w' : World) : Prop := ∃ X', A w' X' ∧ Kp X w w' ∧ ∀ b ∈ X', b ∈ X ∨ w.heap.size ≤ b
def sbs (A C : Th) : Th := fun w Z => ∃ X Y, A w X ∧ C w Y ∧ (∀ b ∈ X, b ∉ Y) ∧ Z = X ++ Y
variable {B : Nat} {A A' C C' : Th} {w w' w'' : World} {X Y Z : List Nat}
theorem Ft.on (hA : Ft B A) (h : A w X) (hb : Below w.heap.size w w') : A w' X := hA.kept h (kp_of_below hb []) (by simp) (by simp)
theorem Nx.refl (hA : Ft B A) (h : A w X) (hb : Below w.heap.size w w') : Nx A X w w' := ⟨X, hA.on h hb, kp_of_below hb _, fun _ h => .inl h⟩
theorem Nx.trans {A'' : Th} {X1 : List Nat} (h : A' w' X1 ∧ Kp X w w' ∧ ∀ b ∈ X1, b ∈ X ∨ w.heap.size ≤ b) (h' : Nx A'' X1 w' w'') : Nx A'' X w w'' := by
 obtain ⟨_, h2, h3⟩ := h
 obtain ⟨X2, h4, h5, h6⟩ := h'
 refine ⟨X2, h4, h2.trans h5 (fun b hb hlt => ?_), fun b hb => ?_⟩
 ·rcases h3 b hb with h | h
  ·exact h
  ·omega
 ·rcases h6 b hb with h | h
  ·exact h3 b h
  ·exact .inr (Nat.le_trans h2.size h)
theorem sbs_ft (hA : Ft B A) (hC : Ft B C) : Ft B (sbs A C) := by
 refine ⟨fun {w X} h b hb => ?_, fun {w w' X Y} h hk hY hX => ?_⟩
 ·obtain ⟨X1, Y1, h1, h2, _, rfl⟩ := h
  rcases List.mem_append.1 hb with hb | hb
  ·exact hA.lt h1 b hb
  ·exact hC.lt h2 b hb
 ·obtain ⟨X1, Y1, h1, h2, h3, rfl⟩ := h
  exact ⟨X1, Y1, hA.kept h1 hk hY (fun b hb => hX b (List.mem_append_left _ hb)), hC.kept h2 hk hY (fun b hb => hX b (List.mem_append_right _ hb)), h3, rfl⟩
theorem Nx.left (hA : Ft B A) (hC : Ft B C) (h1 : A w X) (h2 : C w Y) (hd : ∀ b ∈ X, b ∉ Y) (h : Nx A' X w w') : Nx (sbs A' C) (X ++ Y) w w' := by
 obtain ⟨X', h3, h4, h5⟩ := h
 refine ⟨X' ++ Y, ⟨X', Y, h3, hC.kept h2 h4 (fun b hb => (hA.lt h1 b hb).1) (fun b hb hm => hd b hm hb), fun b hb hm => ?_, rfl⟩, h4.mono (fun b hb _ => List.mem_append_left _ hb), fun b hb => ?_⟩
 ·rcases h5 b hb with h | h
  ·exact hd b h hm
  ·have := (hC.lt h2 b hm).2
   omega
 ·rcases List.mem_append.1 hb with hb | hb
  ·exact (h5 b hb).imp (fun h => List.mem_append_left _ h) (fun h => h)
  ·exact .inl (List.mem_append_right _ hb)
theorem Nx.right (hA : Ft B A) (hC : Ft B C) (h1 : A w X) (h2 : C w Y) (hd : ∀ b ∈ X, b ∉ Y) (h : Nx C' Y w w') : Nx (sbs A C') (X ++ Y) w w' := by
 obtain ⟨Y', h3, h4, h5⟩ := h
 refine ⟨X ++ Y', ⟨X, Y', hA.kept h1 h4 (fun b hb => (hC.lt h2 b hb).1) hd, h3, fun b hb hm => ?_, rfl⟩, h4.mono (fun b hb _ => List.mem_append_right _ hb), fun b hb => ?_⟩
 ·rcases h5 b hm with h | h
  ·exact hd b hb h
  ·have := (hA.lt h1 b hb).2
   omega
 ·rcases List.mem_append.1 hb with hb | hb
  ·exact .inl (List.mem_append_left _ hb)
  ·exact (h5 b hb).imp (fun h => List.mem_append_right _ h) (fun h => h)
def Ct (P : Program) (f : Nat) (args : Array Value) (A A' : Th) (r : Value) : Prop := ∀ w X, A w X → Calls P f args w fun e w' => e = .returned r ∧ Nx A' X w w'
variable {P : Program} {f : Nat} {args : Array Value} {r : Value}
theorem Ct.left (h : Ct P f args A A' r) (hA : Ft B A) (hC : Ft B C) : Ct P f args (sbs A C) (sbs A' C) r := fun w Z hZ => by
 obtain ⟨X, Y, h1, h2, h3, rfl⟩ := hZ
 exact (h w X h1).mono fun _ _ ⟨h4, h5⟩ => ⟨h4, h5.left hA hC h1 h2 h3⟩
def Ex (A : Th) (w : World) : Prop := ∃ X, A w X
theorem Ex.on (hA : Ft B A) (h : Ex A w) (hb : Below w.heap.size w w') : Ex A w' := let ⟨X, h⟩ := h; ⟨X, hA.on h hb⟩
theorem sbs_new (hA : Ft B A) (h1 : A w X) (hb : Below w.heap.size w w') (h2 : C w' Y) (hY : ∀ b ∈ Y, w.heap.size ≤ b) : sbs A C w' (X ++ Y) :=
 ⟨X, Y, hA.on h1 hb, h2, fun b hb hm => by
  have := (hA.lt h1 b hb).2
  have := hY b hm
  omega, rfl⟩
def blk (g T : Nat) (cs : Array Value) : Th := fun w X => w.heap[g]? = some (.cells cs T (0, 0)) ∧ X = [g]
theorem blk_ft {g T : Nat} {cs : Array Value} (hg : B ≤ g) : Ft B (blk g T cs) := by
 refine ⟨fun {w X} h b hb => ?_, fun {w w' X Y} h hk _ hX => ?_⟩
 ·obtain ⟨h1, rfl⟩ := h
  obtain rfl := List.mem_singleton.1 hb
  exact ⟨hg, (Array.getElem?_eq_some_iff.1 h1).1⟩
 ·obtain ⟨h1, rfl⟩ := h
  exact ⟨hk.var h1 (hX g (by simp)), rfl⟩
end
section
variable {B : Nat} {A A' C C' : Th} {w w' w'' : World} {X Y Z : List Nat} {P : Program} {f : Nat} {args : Array Value} {Q : Ending → World → Prop}
def Cq (P : Program) (f : Nat) (args : Array Value) (A A' : Th) (Q : Ending → World → Prop) : Prop := ∀ w X, A w X → Calls P f args w fun e w' => Q e w' ∧ Nx A' X w w'
theorem Cq.left (h : Cq P f args A A' Q) (hA : Ft B A) (hC : Ft B C) : Cq P f args (sbs A C) (sbs A' C) Q := fun w Z hZ => by
 obtain ⟨X, Y, h1, h2, h3, rfl⟩ := hZ
 exact (h w X h1).mono fun _ _ ⟨h4, h5⟩ => ⟨h4, h5.left hA hC h1 h2 h3⟩
theorem Cq.right (h : Cq P f args C C' Q) (hA : Ft B A) (hC : Ft B C) : Cq P f args (sbs A C) (sbs A C') Q := fun w Z hZ => by
 obtain ⟨X, Y, h1, h2, h3, rfl⟩ := hZ
 exact (h w Y h2).mono fun _ _ ⟨h4, h5⟩ => ⟨h4, h5.right hA hC h1 h2 h3⟩
theorem Ct.cq {r : Value} (h : Ct P f args A A' r) : Cq P f args A A' fun e _ => e = .returned r := h
end
section
variable {base B : Nat} {w u w' : World} {p m : Nat} {L L' : Po} {F : Fo} {id : Int} {es : List Addr} {e : Ps}
theorem own_empty (w : World) (T : TypeId) (k : Nat) : (w.alloc (.cells #[] T)).ownsRow w.heap.size T k (.slice (some ⟨w.heap.size, 0, none⟩) 0 0) 0 [] :=
 ⟨by simp, .inr ⟨w.heap.size, 0, #[], rfl, Nat.le_refl _, (bk_new w #[] T).obj, Nat.le_refl _, Nat.zero_le _, by simp, by simp⟩⟩
theorem eql_nil0 (w : World) : (binOp BinOp.eql 31 (.slice none 0 0) (.slice none 0 0)).run Tryz.prog w = .ok (.bool true) w := by kernel_rfl
theorem eql_nil1 (x : Addr) (n c : Nat) (w : World) : (binOp BinOp.eql 31 (.slice (some x) n c) (.slice none 0 0)).run Tryz.prog w = .ok (.bool false) w := by kernel_rfl
theorem rclone_any (s : Option Addr) (n c : Nat) (l : List (List Int)) (w : World) (hr : RdM 4 w s n c l) (hn : n ≤ 1000000) :
  Calls Tryz.prog 69 #[.slice s n c] w fun e w' => ∃ v, e = .returned v ∧ OwM 4 30 w w' v l := by
 obtain ⟨i0, hi, hz0, hz1, hz2⟩ := infoMP infoM4
 have HL := hid hr.len
 have HK := hid hr.size
 have hb := bel_new w (.cells #[] 30)
 have HS := hid ((hr.on hb).src (P := Tryz.prog) (t := 31) (e := 30) Tryz.underlying31)
 have HO := hid (own_empty w 30 4)
 have HB := hid hb
 cases s with
 | none =>
  have h1 := hr.hnil rfl
  have h2 := hr.le
  obtain rfl : n = 0 := by omega
  obtain rfl : c = 0 := h1
  have q0 := eql_nil0
  obtain rfl : l = [] := List.eq_nil_of_length_eq_zero HL.out
  clear hr hb HS HO
  go_enter Tryz.func69, Tryz.ntmps69
  go_wp2
  go_ret
  exact ⟨_, rfl, World.ownsRow_nil _ _ _ _, Below.refl _ _, HK.out⟩
 | some x =>
  have q0 := eql_nil1
  clear hr hb
  go_enter Tryz.func69, Tryz.ntmps69
  go_wp2_with (at_builtin; refine wpList_append_own_src _ rfl (.tmp 5) (.tmp 6) 31 31 rfl w.heap.size 30 i0 (.agg #[.int .i64 0, .int .i64 0, .int .i64 0, .int .i64 0]) 4 32 Tryz.underlying31 hi hz0 hz1 hz2 rfl _ _ _ rfl HO.out _ _ _ rfl HS.out (by simp only [maxLen]; omega) (fitsM (by omega) (by decide)) HB.out.size ?_; intro v3 w3 o3 g3; have HO3 := hid o3; have HG3 := hid g3; clear o3 g3)
  go_ret
  have h3 := HO3.out
  rw [Nat.zero_add, List.nil_append] at h3
  refine ⟨_, rfl, by rw [HL.out]; exact h3, ?_, HK.out⟩
  exact HB.out.trans ((kp_of_grown HG3.out).below HB.out.size (fun k hk => Nat.le_of_eq (List.mem_singleton.1 (show k ∈ [w.heap.size] from hk)).symm))
theorem own_fy {w : World} {D T k n : Nat} {s : Sl} {xs : List Value} (o : w.ownsRow D T k s.v n xs) (y : Addr) (hy : s.a = some y) : D ≤ y.block := by
 rcases o.2 with ⟨h, _⟩ | ⟨g, cap, cur, h, hg, _⟩
 ·simp only [Sl.v, Value.slice.injEq] at h
  rw [h.1] at hy
  cases hy
 ·simp only [Sl.v, Value.slice.injEq] at h
  rw [h.1] at hy
  cases hy
  exact hg
theorem fin1_any {w0 : World} (h : Pf base w0 p m L) (he : gt L id = some e) (hb : Below w0.heap.size w0 w) (ca cb : Nat) (a : Bool) (l : Sl) (hl : RdM 4 w l.a l.n l.c l.l) (hn : l.n ≤ 1000000) (hca : w.cell? ⟨ca, 0, none⟩ = some (.bool a)) (hcb : w.cell? ⟨cb, 0, none⟩ = some (.slice l.a l.n l.c)) (_hce : ca ≠ e.g) (_hcf : cb ≠ e.g) (hle : l.Frb e.g) :
  Calls Tryz.prog 68 (#[.pointer (some ⟨e.g, 0, none⟩)] ++ #[.pointer (some ⟨ca, 0, none⟩), .pointer (some ⟨cb, 0, none⟩)]) w fun e' w' => e' = .returned undef ∧ ∃ L', PfR base w0 p m L (upd (pab L) id (inpS a l.l)) w' L' := by
 have hbd : Below w0.heap.size w0 w.drew := Below.on hb (Below.refl _ _).drew
 have HK : Hid (Kp [e.g] w.drew (((w.drew.setCell ⟨e.g, 4, none⟩ (.bool true)).setCell ⟨e.g, 5, none⟩ (.bool a)).setCell ⟨e.g, 6, none⟩ (.slice none 0 0))) := ((kp1 _ _ _ _).s1 _ _).s1 _ _
 have HR1 := hid (h.putIn he hbd a sl0 (RdM.nil _ _) (fun y hy => by cases hy) HK.out (((((h.on hbd).bk he).set 4 (.bool true)).set 5 (.bool a)).set 6 (.slice none 0 0)) [] (by cases a <;> rfl))
 have hw := h.on hb
 have c4 : w.cell? ⟨e.g, 4, none⟩ = some (.bool e.s.pe.inp) := hw.cell he
 have c5 : w.cell? ⟨e.g, 5, none⟩ = some (.bool e.s.pe.all) := hw.cell he
 have c6 : w.cell? ⟨e.g, 6, none⟩ = some (.slice e.s.pe.rg.a e.s.pe.rg.n e.s.pe.rg.c) := hw.cell he
 have f1 := hw.fz he
 have hlt := (hw.wlt he (mem_wb.2 (.inl rfl))).2
 have hlc := World.block_lt_of_cell? _ _ hca
 have hld := World.block_lt_of_cell? _ _ hcb
 have CL := hid (rclone_any l.a l.n l.c l.l _ (rd_far (hl.on (Below.refl _ _).drew) HK.out (fun b hb => by simp only [List.mem_singleton] at hb; rw [hb]; exact hle)) hn)
 have HEE := hid he
 clear hw h hb hl hle he
 cases a with
 | true =>
  go_enter Tryz.func68, Tryz.ntmps68
  go_wp2_with fail
  go_region
  go_wp2_with fail
  go_end0
  exact ⟨rfl, _, HR1.out⟩
 | false =>
  go_enter Tryz.func68, Tryz.ntmps68
  go_wp2_with fail
  go_region
  go_wp2_with fail
  refine CL.out.mono ?_
  rintro e' w2 ⟨v, rfl, hv⟩
  obtain ⟨s, rfl, hsn, hsl, hsr, hso⟩ := own_sl hv.own rfl hv.size
  have hP1 := HR1.out.pf
  have he1 : gt (st L id ⟨e.g, { e.s with pe := { e.s.pe with inp := true, all := false, rg := sl0 } }⟩) id = some ⟨e.g, { e.s with pe := { e.s.pe with inp := true, all := false, rg := sl0 } }⟩ := by rw [gt_st, if_pos rfl, HEE.out]; rfl
  have HR2 := hid (hP1.putIn he1 hv.bel false s hsr (fun y hy _ => own_fy hso y hy) (kp1 _ _ 6 s.v) (((hP1.on hv.bel).bk he1).set 6 s.v) l.l hsl)
  have HF := hid (HR1.out.trans HR2.out)
  have c7 : w2.cell? ⟨e.g, 6, none⟩ = some (.slice none 0 0) := (hP1.on hv.bel).cell he1
  have f2 := (hP1.on hv.bel).fz he1
  have hl2 := ((hP1.on hv.bel).wlt he1 (mem_wb.2 (.inl rfl))).2
  have HAB := hid HR1.out.ab
  rw [Sl.v] at HF
  rw [Sl.v]
  clear hsn hsl hsr hso hv hP1 he1 HR2 HR1 CL HK
  go_wp2_with fail
  go_end0
  refine ⟨rfl, _, HF.out.as ?_⟩
  rw [HAB.out, upd_upd]
  rfl
theorem finput_any (hE : Fe w es) (h : Pf base w p m L) (id : Int) (hi : Bt id) (a : Bool) (l : Sl) (hl : RdM 4 w l.a l.n l.c l.l) (hn : l.n ≤ 1000000) (hf : ∀ e, gt L id = some e → l.Frb e.g) :
  Calls Tryz.prog 19 #[.pointer (some ⟨p, 0, none⟩), .int .i64 id, .bool a, .slice l.a l.n l.c] w fun e w' => e = .returned (erv es (hasE (pab L) id)) ∧ ∃ L', PfR base w p m L (upd (pab L) id (inpS a l.l)) w' L' := by
 have hb1 := bel_new w (.cells #[.bool a] 4)
 have hb2 := bel_new (w.alloc (.cells #[.bool a] 4)) (.cells #[.slice l.a l.n l.c] 31)
 have hb := Below.on hb1 hb2
 have hk1 := (bk_new w #[.bool a] 4).on hb2
 have hk2 := bk_new (w.alloc (.cells #[.bool a] 4)) #[.slice l.a l.n l.c] 31
 rw [size_new] at hk2
 have HT := hid (fturn_any (hE.on hb) (h.on hb) id hi 68 #[.pointer (some ⟨w.heap.size, 0, none⟩), .pointer (some ⟨w.heap.size + 1, 0, none⟩)] (enters_of Tryz.func68 (by kernel_rfl) rfl) (fun w' => ∃ L', PfR base w p m L (upd (pab L) id (inpS a l.l)) w' L')
  (fun hq q => ⟨L, (PfR.refl h (Below.on hb (below_drewN (Below.refl _ _) q))).as (by rw [upd, gt_pab, hq]; rfl)⟩)
  (fun e he q => fin1_any h he (Below.on hb (below_drewN (Below.refl _ _) q)) w.heap.size (w.heap.size + 1) a l (hl.on (Below.on hb (below_drewN (Below.refl _ _) q))) hn ((hk1.on (below_drewN (Below.refl _ _) q)).cell 0) ((hk2.on (below_drewN (Below.refl _ _) q)).cell 0) (fun e1 => by have := (h.wlt he (mem_wb.2 (.inl rfl))).2; omega) (fun e1 => by have := (h.wlt he (mem_wb.2 (.inl rfl))).2; omega) (hf e he)))
 clear hE h hb hb1 hb2 hk1 hk2 hl hf
 go_enter Tryz.func19, Tryz.ntmps19
 go_wp2_with fail
 refine HT.out.mono ?_
 rintro e w1 ⟨rfl, hx⟩
 have HX := hid hx
 clear hx
 go_wp2
 go_ret
 exact ⟨rfl, HX.out⟩
end
section
def rbs (L : Po) : List Nat := L.flatMap fun e => (ros e.2.s).flatMap fun z => if 0 < z.n then z.bl else []
theorem mem_rbs {L : Po} (hn : (keys L).Nodup) {b : Nat} : b ∈ rbs L ↔ ¬ Ofr L b := by
 rw [rbs, List.mem_flatMap]
 constructor
 ·rintro ⟨e, he, hb⟩ ho
  obtain ⟨z, hz, hb⟩ := List.mem_flatMap.1 hb
  split at hb
  ·rename_i h0
   obtain ⟨y, hy, e1⟩ := bl_of.1 hb
   exact ho e.1 e.2 (gt_of_mem hn he) z hz y hy h0 e1
  ·cases hb
 ·intro h
  obtain ⟨x, h⟩ := Classical.not_forall.1 h
  obtain ⟨e, h⟩ := Classical.not_forall.1 h
  obtain ⟨he, h⟩ := Classical.not_imp.1 h
  obtain ⟨z, h⟩ := Classical.not_forall.1 h
  obtain ⟨hz, h⟩ := Classical.not_imp.1 h
  obtain ⟨y, h⟩ := Classical.not_forall.1 h
  obtain ⟨hy, h⟩ := Classical.not_imp.1 h
  obtain ⟨h0, h⟩ := Classical.not_imp.1 h
  refine ⟨(x, e), gt_mem he, List.mem_flatMap.2 ⟨z, hz, ?_⟩⟩
  rw [if_pos h0]
  exact bl_of.2 ⟨y, hy, Classical.not_not.1 h⟩
def fbl (p m : Nat) (L : Po) : List Nat := p :: m :: (wbs L ++ rbs L)
theorem mem_fbl {p m : Nat} {L : Po} {b : Nat} : b ∈ fbl p m L ↔ b = p ∨ b = m ∨ b ∈ wbs L ∨ b ∈ rbs L := by
 rw [fbl, List.mem_cons, List.mem_cons, List.mem_append]
def Pq (es : List Addr) (w0 : World) (p mm : Nat) (F : Fo) : Th := fun w X => RowKit.Below w0.heap.size w0 w ∧ Fe w es ∧ 16 ≤ w0.heap.size ∧ Fok mm F ∧ ∃ m L, Pf w0.heap.size w p m L ∧ pab L = F ∧ (∀ b, b < w0.heap.size → Ofr L b) ∧ X = fbl p m L
variable {X : List Nat} {es : List Addr} {w0 w w' : World} {p mm : Nat} {F : Fo}
theorem Pf.rlt {base m : Nat} {L : Po} (h : Pf base w p m L) {b : Nat} (hb : b ∈ rbs L) : b < w.heap.size := by
 rcases Nat.lt_or_ge b w.heap.size with h1 | h1
 ·exact h1
 ·exact absurd (fun x e he z hz => (h.rows x e he).ros hz h1) ((mem_rbs h.nd).1 hb)
theorem pq_ft (es : List Addr) (w0 : World) (p mm : Nat) (F : Fo) : Ft w0.heap.size (Pq es w0 p mm F) := by
 refine ⟨fun {w X} h b hb => ?_, fun {w w' X Y} h hk hY hX => ?_⟩
 ·obtain ⟨_, _, _, _, m, L, h1, _, h3, rfl⟩ := h
  rcases mem_fbl.1 hb with rfl | rfl | hb | hb
  ·exact ⟨h1.lop, h1.lt.1⟩
  ·exact ⟨h1.lom, h1.lt.2⟩
  ·obtain ⟨x, e, he, hb⟩ := (mem_wbs h1.nd).1 hb
   exact h1.wlt he hb
  ·refine ⟨?_, h1.rlt hb⟩
   rcases Nat.lt_or_ge b w0.heap.size with h4 | h4
   ·exact absurd (h3 b h4) ((mem_rbs h1.nd).1 hb)
   ·exact h4
 ·obtain ⟨g1, g2, g3, g4, m, L, h1, h2, h3, rfl⟩ := h
  have hb := hk.below g1.size hY
  refine ⟨g1.trans hb, g2.kb hb g3, g3, g4, m, L, h1.kept hk (hX p (mem_fbl.2 (.inl rfl))) (hX m (mem_fbl.2 (.inr (.inl rfl)))) (fun x e he => ⟨fun b hb => hX b (mem_fbl.2 (.inr (.inr (.inl ((mem_wbs h1.nd).2 ⟨x, e, he, hb⟩))))), fun z hz b hb => ?_⟩), h2, h3, rfl⟩
  have hnr : b ∉ rbs L := fun hm => hX b (mem_fbl.2 (.inr (.inr (.inr hm)))) hb
  have ho : Ofr L b := Classical.not_not.1 fun h => hnr ((mem_rbs h1.nd).2 h)
  exact ho x e he z hz
theorem Pq.pg (h : Pq es w0 p mm F w X) : Pg es w0 w p mm F := by
 obtain ⟨g1, g2, g3, g4, m, L, h1, h2, _⟩ := h
 exact ⟨⟨m, L, h1, h2⟩, g4, g2, g3, g1⟩
theorem pq_mono {n : Nat} (h : Pq es w0 p mm F w X) (hn : mm ≤ n) : Pq es w0 p n F w X := by
 obtain ⟨g1, g2, g3, g4, h⟩ := h
 exact ⟨g1, g2, g3, g4.mono hn, h⟩
theorem pqx {m : Nat} {L L' : Po} {G : Fo} {n : Nat} (g1 : RowKit.Below w0.heap.size w0 w) (g2 : Fe w es) (g3 : 16 ≤ w0.heap.size) (hP : Pf w0.heap.size w p m L) (hl : ∀ b, b < w0.heap.size → Ofr L b) (hR : PfR w0.heap.size w p m L G w' L') (hok : Fok n G) : Nx (Pq es w0 p n G) (fbl p m L) w w' := by
 have hb := hR.bel hP
 refine ⟨fbl p m L', ⟨g1.trans hb, g2.kb hb g3, g3, hok, m, L', hR.pf, hR.ab, fun b h => hR.ofr b (Nat.lt_of_lt_of_le h g1.size) (hl b h), rfl⟩, hR.kp.mono (fun b hb _ => ?_), fun b hb => ?_⟩
 ·rcases List.mem_cons.1 hb with rfl | hb
  ·exact mem_fbl.2 (.inr (.inl rfl))
  ·exact mem_fbl.2 (.inr (.inr (.inl hb)))
 ·rcases mem_fbl.1 hb with rfl | rfl | hb | hb
  ·exact .inl (mem_fbl.2 (.inl rfl))
  ·exact .inl (mem_fbl.2 (.inr (.inl rfl)))
  ·exact (hR.new b hb).imp (fun h => mem_fbl.2 (.inr (.inr (.inl h)))) id
  ·rcases Nat.lt_or_ge b w.heap.size with h1 | h1
   ·by_cases ho : Ofr L b
    ·exact absurd (hR.ofr b h1 ho) ((mem_rbs hR.pf.nd).1 hb)
    ·exact .inl (mem_fbl.2 (.inr (.inr (.inr ((mem_rbs hP.nd).2 ho)))))
   ·exact .inr h1
theorem pq_new (w0 w : World) (hb : Below w0.heap.size w0 w) (hE : Fe w es) (hn : 16 ≤ w0.heap.size) : Calls Tryz.prog 5 #[] w fun e w' => ∃ p X, e = .returned (.pointer (some ⟨p, 0, none⟩)) ∧ Pq es w0 p 0 [] w' X ∧ Below w.heap.size w w' ∧ ∀ b ∈ X, w.heap.size ≤ b :=
 (fnew_any w).mono fun _ _ ⟨h1, h2, h3⟩ => ⟨_, _, h1, ⟨Below.on hb h2, hE.on h2, hn, fok_nil, _, _, h3 _ hb.size, rfl, fun b _ x e h => (by cases h), rfl⟩, h2, fun b hb => by
  simp only [fbl, wbs, rbs, List.flatMap_nil, List.append_nil, List.mem_cons, List.not_mem_nil, or_false] at hb
  omega⟩
theorem pq_add (_hm : mm ≤ 900) (id : Int) (hi : Bt id) : Ct Tryz.prog 23 #[.pointer (some ⟨p, 0, none⟩), .int .i64 id] (Pq es w0 p mm F) (Pq es w0 p (mm + 1) (addF F id)) (erv es (addE F id)) := fun w X h => by
 obtain ⟨g1, g2, g3, g4, m, L, hP, rfl, hl, rfl⟩ := h
 exact (fadd_any g2 hP id hi (by rw [← pab_length L]; exact g4.inv.len)).mono fun _ _ ⟨h1, L', hR⟩ => ⟨h1, pqx g1 g2 g3 hP hl hR (g4.add hi)⟩
theorem pq_drp (hm : mm ≤ 900) (id : Int) (hi : Bt id) : Ct Tryz.prog 29 #[.pointer (some ⟨p, 0, none⟩), .int .i64 id] (Pq es w0 p mm F) (Pq es w0 p (mm + 1) (drpF F id)) (erv es (drpE F id)) := fun w X h => by
 obtain ⟨g1, g2, g3, g4, m, L, hP, rfl, hl, rfl⟩ := h
 exact (fdrop_any g2 g3 hP g4.nok (g4.few hm hP) id hi).mono fun _ _ ⟨h1, L', hR⟩ => ⟨h1, pqx g1 g2 g3 hP hl hR (g4.drp id)⟩
theorem pq_sub (hm : mm ≤ 900) (id y : Int) (hi : Bt id) (hj : Bt y) : Ct Tryz.prog 24 #[.pointer (some ⟨p, 0, none⟩), .int .i64 id, .int .i64 y] (Pq es w0 p mm F) (Pq es w0 p (mm + 1) (subFB F id y)) (erv es (subEB F id y)) := fun w X h => by
 obtain ⟨g1, g2, g3, g4, m, L, hP, rfl, hl, rfl⟩ := h
 have q := fsub_any g2 g3 hP g4.nok (g4.few hm hP) id y hi hj
 rw [g4.inv.subE, g4.inv.subF] at q
 exact q.mono fun _ _ ⟨h1, L', hR⟩ => ⟨h1, pqx g1 g2 g3 hP hl hR (by rw [← g4.inv.subF]; exact g4.sub id y)⟩
theorem pq_uns (hm : mm ≤ 900) (id : Int) (hi : Bt id) : Ct Tryz.prog 32 #[.pointer (some ⟨p, 0, none⟩), .int .i64 id] (Pq es w0 p mm F) (Pq es w0 p (mm + 1) (unsF F id)) (erv es (unsE F id)) := fun w X h => by
 obtain ⟨g1, g2, g3, g4, m, L, hP, rfl, hl, rfl⟩ := h
 exact (funsub_any g2 g3 hP g4.nok (g4.few hm hP) id hi).mono fun _ _ ⟨h1, L', hR⟩ => ⟨h1, pqx g1 g2 g3 hP hl hR (g4.uns id)⟩
theorem pq_att (_hm : mm ≤ 900) (id b : Int) (hi : Bt id) (hb : Bt b) : Ct Tryz.prog 13 #[.pointer (some ⟨p, 0, none⟩), .int .i64 id, .int .i64 b] (Pq es w0 p mm F) (Pq es w0 p (mm + 1) (upd F id (attS b))) (erv es (hasE F id)) := fun w X h => by
 obtain ⟨g1, g2, g3, g4, m, L, hP, rfl, hl, rfl⟩ := h
 exact (fattach_any g2 hP id hi b).mono fun _ _ ⟨h1, L', hR⟩ => ⟨h1, pqx g1 g2 g3 hP hl hR (g4.att id hb)⟩
theorem pq_dmg (hm : mm ≤ 900) (id : Int) (hi : Bt id) (z0 z1 z2 z3 : Int) : Ct Tryz.prog 14 #[.pointer (some ⟨p, 0, none⟩), .int .i64 id, .agg #[.int .i64 z0, .int .i64 z1, .int .i64 z2, .int .i64 z3]] (Pq es w0 p mm F) (Pq es w0 p (mm + 1) (upd F id (dmgS [z0, z1, z2, z3]))) (erv es (hasE F id)) := fun w X h => by
 obtain ⟨g1, g2, g3, g4, m, L, hP, rfl, hl, rfl⟩ := h
 exact (fdamage_any g2 hP id hi (fun e he => by have := (g4.len hm hP he).1.1; omega) z0 z1 z2 z3).mono fun _ _ ⟨h1, L', hR⟩ => ⟨h1, pqx g1 g2 g3 hP hl hR (g4.dmg id _)⟩
theorem pq_frm (hm : mm ≤ 900) (id b : Int) (hi : Bt id) : Ct Tryz.prog 15 #[.pointer (some ⟨p, 0, none⟩), .int .i64 id, .int .i64 b] (Pq es w0 p mm F) (Pq es w0 p (mm + 1) (upd F id (frmS b))) (erv es (hasE F id)) := fun w X h => by
 obtain ⟨g1, g2, g3, g4, m, L, hP, rfl, hl, rfl⟩ := h
 exact (fframe_any g2 hP id hi (fun e he => by have := (g4.len hm hP he).1.2.1; omega) b).mono fun _ _ ⟨h1, L', hR⟩ => ⟨h1, pqx g1 g2 g3 hP hl hR (g4.frm id b)⟩
theorem pq_pos (hm : mm ≤ 900) (id x y : Int) (hi : Bt id) : Ct Tryz.prog 16 #[.pointer (some ⟨p, 0, none⟩), .int .i64 id, .int .i64 x, .int .i64 y] (Pq es w0 p mm F) (Pq es w0 p (mm + 1) (posF F id x y)) (erv es (unsE F id)) := fun w X h => by
 obtain ⟨g1, g2, g3, g4, m, L, hP, rfl, hl, rfl⟩ := h
 exact (fpos_any g2 hP g4.nok (g4.few hm hP) id x y hi).mono fun _ _ ⟨h1, L', hR⟩ => ⟨h1, pqx g1 g2 g3 hP hl hR (g4.posn id x y)⟩
theorem pq_abv (hm : mm ≤ 900) (id y : Int) (hi : Bt id) : Ct Tryz.prog 17 #[.pointer (some ⟨p, 0, none⟩), .int .i64 id, .int .i64 y] (Pq es w0 p mm F) (Pq es w0 p (mm + 1) (putF F id y 1)) (erv es (putE F id y 1)) := fun w X h => by
 obtain ⟨g1, g2, g3, g4, m, L, hP, rfl, hl, rfl⟩ := h
 exact (fabove_any g2 hP g4.nok (g4.few hm hP) id y hi).mono fun _ _ ⟨h1, L', hR⟩ => ⟨h1, pqx g1 g2 g3 hP hl hR (g4.put id y 1)⟩
theorem pq_blw (hm : mm ≤ 900) (id y : Int) (hi : Bt id) : Ct Tryz.prog 18 #[.pointer (some ⟨p, 0, none⟩), .int .i64 id, .int .i64 y] (Pq es w0 p mm F) (Pq es w0 p (mm + 1) (putF F id y 0)) (erv es (putE F id y 0)) := fun w X h => by
 obtain ⟨g1, g2, g3, g4, m, L, hP, rfl, hl, rfl⟩ := h
 exact (fbelow_any g2 hP g4.nok (g4.few hm hP) id y hi).mono fun _ _ ⟨h1, L', hR⟩ => ⟨h1, pqx g1 g2 g3 hP hl hR (g4.put id y 0)⟩
theorem pq_syn (_hm : mm ≤ 900) (id : Int) (hi : Bt id) (on : Bool) : Ct Tryz.prog 89 #[.pointer (some ⟨p, 0, none⟩), .int .i64 id, .bool on] (Pq es w0 p mm F) (Pq es w0 p (mm + 1) (synF F id on)) (erv es (unsE F id)) := fun w X h => by
 obtain ⟨g1, g2, g3, g4, m, L, hP, rfl, hl, rfl⟩ := h
 exact (fsync_any g2 hP id hi (fun e he => (g4.nok.key id e he).2) on).mono fun _ _ ⟨h1, L', hR⟩ => ⟨h1, pqx g1 g2 g3 hP hl hR (g4.syn id on)⟩
theorem pq_tak (_hm : mm ≤ 900) (id : Int) (hi : Bt id) : Cq Tryz.prog 39 #[.pointer (some ⟨p, 0, none⟩), .int .i64 id] (Pq es w0 p mm F) (Pq es w0 p (mm + 1) (upd F id takS)) (fun e w' => ∃ l : Sl, e = .returned (.slice l.a l.n l.c) ∧ l.l = takL F id ∧ RdM 1 w' l.a l.n l.c l.l) := fun w X h => by
 obtain ⟨g1, g2, g3, g4, m, L, hP, rfl, hl, rfl⟩ := h
 exact (ftake_any g2 hP id hi).mono fun _ _ ⟨l, h1, h2, h3, L', hR⟩ => ⟨⟨l, h1, h2, h3⟩, pqx g1 g2 g3 hP hl hR (g4.tak id)⟩
theorem pq_inp (h : Pq es w0 p mm F w X) (id : Int) (hi : Bt id) (a : Bool) (l : Sl) (hl : RdM 4 w l.a l.n l.c l.l) (hn : l.n ≤ 20) (hx : ∀ y, l.a = some y → 0 < l.n → y.block ∉ X) :
  Calls Tryz.prog 19 #[.pointer (some ⟨p, 0, none⟩), .int .i64 id, .bool a, .slice l.a l.n l.c] w fun e w' => e = .returned (erv es (hasE F id)) ∧ Nx (Pq es w0 p (mm + 1) (upd F id (inpS a l.l))) X w w' := by
 obtain ⟨g1, g2, g3, g4, m, L, hP, rfl, hlo, rfl⟩ := h
 exact (finput_any g2 hP id hi a l hl (by omega) (fun e he y hy h0 e1 => hx y hy h0 (mem_fbl.2 (.inr (.inr (.inl (wb_wbs hP he (mem_wb.2 (.inl e1))))))))).mono fun _ _ ⟨h1, L', hR⟩ => ⟨h1, pqx g1 g2 g3 hP hlo hR (g4.inp id a (by rw [hl.len]; exact hn))⟩
end
section
variable {base : Nat} {X : List Nat} {w : World} {q : Nat} {v : Value} {L : Ro}
def SIs (v : Value) (L : Ro) (id : Int) (r : Option Addr) : Prop := match gt L id with
 | none => r = none
 | some s => ∃ g i, r = some ⟨g, i * 33, none⟩ ∧ v.ownBlock = some g ∧ L[i]? = some (id, s)
theorem key_none {L : Ro} {id : Int} (h : ∀ (j : Nat) (e : Int × Sr), j < L.length → L[j]? = some e → e.1 ≠ id) : gt L id = none := by
 rw [gt_none]
 intro hm
 obtain ⟨e, he, rfl⟩ := List.mem_map.1 hm
 obtain ⟨j, hj⟩ := List.getElem?_of_mem he
 exact h j e (List.getElem?_eq_some_iff.1 hj).1 hj rfl
theorem key_some {L : Ro} {id : Int} {i : Nat} {s : Sr} (h : ∀ (j : Nat) (e : Int × Sr), j < i → L[j]? = some e → e.1 ≠ id) (hi : L[i]? = some (id, s)) : gt L id = some s := by
 induction L generalizing i with
 | nil => simp at hi
 | cons e L ih =>
  rw [gt]
  cases i with
  | zero =>
   simp only [List.getElem?_cons_zero, Option.some.injEq] at hi
   subst hi
   rw [if_pos rfl]
  | succ i =>
   rw [if_neg (h 0 e (by omega) rfl)]
   exact ih (i := i) (fun j e' hj he => h (j + 1) e' (Nat.succ_lt_succ hj) (by simpa using he)) (by simpa using hi)
theorem infoS : (Tryz.prog.info? 67).map (·.size) = some 33 := by kernel_rfl
theorem rs_any (h : Df base X w q v L) (id : Int) :
  Calls Tryz.prog 26 #[.pointer (some ⟨q, 0, none⟩), .int .i64 id] w fun e w' => ∃ r, e = .returned (.pointer r) ∧ SIs v L id r ∧ w' = w := by
 obtain ⟨a, c, hv, hle, hmx, c0, hat⟩ := h.val
 simp only [maxLen] at hmx
 have HAT := hid hat
 obtain ⟨n, hn⟩ : ∃ n, n = L.length := ⟨_, rfl⟩
 have HN := hid hn
 rw [← hn] at c0 hle
 have hlt := h.lt
 clear h hv hat hn
 go_enter Tryz.func26, Tryz.ntmps26
 go_wp2
 go_loopw [5] (fun i wr => ∃ j : Nat, i = .int .i64 j ∧ j ≤ n ∧ (∀ (k : Nat) (e : Int × Sr), k < j → L[k]? = some e → e.1 ≠ id) ∧ wr = w) (fun i _ => n - (numOf i).toNat)
 case atStart => exact ⟨0, rfl, by omega, fun k _ hk => absurd hk (by omega), rfl⟩
 case round =>
  obtain ⟨j, rfl, hj, hq, rfl⟩ := hrel
  by_cases hgo : j < n
  ·have e1 : decide ((j : Int) < n) = true := decide_eq_true (by omega)
   have e2 : (j : Int) < n := by omega
   obtain ⟨⟨k, s⟩, he⟩ : ∃ e, L[j]? = some e := ⟨_, List.getElem?_eq_getElem (by rw [← HN.out]; exact hgo)⟩
   obtain ⟨g, rfl, hg, hcell⟩ := HAT.out j (k, s) he
   have c1 : wr.cell? ⟨g, j * 33, none⟩ = some (.int .i64 k) := hcell 0 (by omega)
   have HE := hid he
   have HQ := hid hq
   have HG := hid hg
   clear he hq hg hcell
   cases hs : (k == id)
   ·have HQ2 : Hid (∀ (m : Nat) (e : Int × Sr), m < j + 1 → L[m]? = some e → e.1 ≠ id) := fun m e hm hme => by
     rcases Nat.lt_or_ge m j with h' | h'
     ·exact HQ.out m e h' hme
     ·obtain rfl : m = j := by omega
      rw [HE.out] at hme
      cases hme
      exact fun e => by rw [show k = id from e] at hs; simp at hs
    go_wp2
    go_roundw
    case rel => exact ⟨j + 1, by go_num, by omega, HQ2.out, trivial⟩
    case measure => simp [numOf]; omega
   ·have HK : Hid (k = id) := beq_iff_eq.1 hs
    go_wp2
    go_ret
    refine ⟨_, rfl, ?_, rfl⟩
    have he := HE.out
    rw [HK.out] at he
    rw [SIs, key_some HQ.out he]
    exact ⟨g, j, rfl, HG.out, he⟩
  ·have e1 : decide ((j : Int) < n) = false := decide_eq_false (by omega)
   have HZ : Hid (gt L id = none) := key_none fun m e hm hme => hq m e (by rw [← HN.out] at hm; omega) hme
   clear hq
   go_wp2
   go_ret
   refine ⟨_, rfl, ?_, rfl⟩
   rw [SIs, HZ.out]
end
end Go.Proofs.YtdgknofpkafppaaGreatDoor
