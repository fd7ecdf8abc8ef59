/- The contracts of the program's pool, I: New, Size, Live, Info, DropPool, Forget. -/
import Derived.Test.YtnfenfleahennaaDoorPolA
import Derived.Test.YtnfenfleahennaaDoorPolB
namespace Go.Proofs.YtnfenfleahennaaDoor
open Go Go.RowKit

/-- The store at p, its maps at a and b, has just these. -/
structure Pst (base : Nat) (w : World) (p a b : Nat) (P : PL) (B : BL) : Prop where
  lop : base ≤ p
  loa : base ≤ a
  lob : base ≤ b
  npa : p ≠ a
  npb : p ≠ b
  nab : a ≠ b
  var : w.heap[p]? = some (.cells #[.map (some a), .map (some b)] 67 (0, 0))
  pown : ∃ D, w.ownsMap Tryd.prog 3 plR a P.length D ∧ Rp pld (0, 0) D P
  bown : ∃ D, w.ownsMap Tryd.prog 3 bfR b B.length D ∧ Rp bfd (nf0, false) D B
  ok : Okp P B

theorem pown_kp {R : Value → Option (DataW Unit × List MemPlace)} {X : List Nat} {w w' : World} {b n : Nat} {D : DataW Unit} (h : w.ownsMap Tryd.prog 3 R b n D) (hk : Kp X w w') (hX : b ∉ X) : w'.ownsMap Tryd.prog 3 R b n D := by
  obtain ⟨es, clock, hb, F, hs, hD⟩ := h
  exact ⟨es, clock, hk.var hb hX, F, hs, hD⟩

variable {base : Nat} {w w' : World} {p a b : Nat} {P : PL} {B : BL} {es : List Addr}

theorem Pst.kept {X : List Nat} (h : Pst base w p a b P B) (hk : Kp X w w') (hp : p ∉ X) (ha : a ∉ X) (hb : b ∉ X) : Pst base w' p a b P B := by
  obtain ⟨D, h1, h2⟩ := h.pown
  obtain ⟨D', h3, h4⟩ := h.bown
  exact ⟨h.lop, h.loa, h.lob, h.npa, h.npb, h.nab, hk.var h.var hp, ⟨D, pown_kp h1 hk ha, h2⟩, ⟨D', pown_kp h3 hk hb, h4⟩, h.ok⟩
theorem Pst.on (h : Pst base w p a b P B) (hb : Below w.heap.size w w') : Pst base w' p a b P B := h.kept (kp_of_below hb []) (by simp) (by simp) (by simp)
theorem Pst.drew (h : Pst base w p a b P B) : Pst base w.drew p a b P B := h.on (Below.refl _ _).drew
theorem Pst.lt (h : Pst base w p a b P B) : p < w.heap.size ∧ a < w.heap.size ∧ b < w.heap.size := by
  obtain ⟨D, h1, _⟩ := h.pown
  obtain ⟨D', h2, _⟩ := h.bown
  exact ⟨(Array.getElem?_eq_some_iff.1 h.var).1, h1.lt, h2.lt⟩
theorem Pst.turnedP (h : Pst base w p a b P B) (ht : w.mapTurned w' a) {n : Nat} {D : DataW Unit} {P' : PL} (ho : w'.ownsMap Tryd.prog 3 plR a n D) (hR : Rp pld (0, 0) D P') (hg : Okp P' B) : Pst base w' p a b P' B := by
  obtain ⟨D', h3, h4⟩ := h.bown
  exact ⟨h.lop, h.loa, h.lob, h.npa, h.npb, h.nab, (kp_turned ht).var h.var (by simpa using h.npa), ⟨D, ptight ho Tryd.underlying3 hR hg.pn, hR⟩, ⟨D', pown_kp h3 (kp_turned ht) (by simpa using fun e : b = a => h.nab e.symm), h4⟩, hg⟩
theorem Pst.turnedB (h : Pst base w p a b P B) (ht : w.mapTurned w' b) {n : Nat} {D : DataW Unit} {B' : BL} (ho : w'.ownsMap Tryd.prog 3 bfR b n D) (hR : Rp bfd (nf0, false) D B') (hg : Okp P B') : Pst base w' p a b P B' := by
  obtain ⟨D', h3, h4⟩ := h.pown
  exact ⟨h.lop, h.loa, h.lob, h.npa, h.npb, h.nab, (kp_turned ht).var h.var (by simpa using h.npb), ⟨D', pown_kp h3 (kp_turned ht) (by simpa using h.nab), h4⟩, ⟨D, ptight ho Tryd.underlying3 hR hg.bn, hR⟩, hg⟩
theorem Pst.c0 (h : Pst base w p a b P B) : w.cell? ⟨p, 0, none⟩ = some (.map (some a)) := by rw [Lib.cell_of_heap h.var]; rfl
theorem Pst.c1 (h : Pst base w p a b P B) : w.cell? ⟨p, 1, none⟩ = some (.map (some b)) := by rw [Lib.cell_of_heap h.var]; rfl

theorem kInt (id : Int) (h : I64 id) : keyOf Tryd.prog 3 (.int .i64 id) = some (.int .i64 id) :=
  Maps.keyOf_int_mk Tryd.underlying3 (by simp [Lit.wf, IntKind.min, IntKind.max, IntKind.signed, IntKind.bits]; omega)
theorem zPl (w : World) : (zeroValue 71).run Tryd.prog w = .ok (plv (0, 0)) w := by kernel_rfl
theorem zBf (w : World) : (zeroValue 77).run Tryd.prog w = .ok (bfv (nf0, false)) w := by kernel_rfl

set_option maxRecDepth 100000 in
theorem pnew_any (w : World) : Calls Tryd.prog 9 #[] w fun e w' => e = .returned (.pointer (some ⟨w.heap.size + 2, 0, none⟩)) ∧ Below w.heap.size w w' ∧ ∀ base, base ≤ w.heap.size → Pst base w' (w.heap.size + 2) w.heap.size (w.heap.size + 1) [] [] := by
  have H0 := hid (World.ownsMap_made w Tryd.prog 3 plR)
  have H1 := hid (World.ownsMap_made (w.alloc (.map #[] 0)) Tryd.prog 3 bfR)
  have hmm := @run_makeMap Tryd.prog
  go_enter Tryd.func9, Tryd.ntmps9
  go_wp2
  go_ret
  have hb : Below w.heap.size w (w.alloc (.map #[] 0)) := (Below.refl w.heap.size w).alloc (Nat.le_refl _) _
  have hb2 : Below w.heap.size w ((w.alloc (.map #[] 0)).alloc (.map #[] 0)) := hb.alloc hb.size _
  have hs1 : (w.alloc (.map #[] 0)).heap.size = w.heap.size + 1 := by simp
  have h1 := H1.out
  rw [hs1] at h1
  refine ⟨by simp, hb2.alloc hb2.size _, fun base hbase => ⟨by omega, hbase, by omega, by omega, by omega, by omega, ?_, ⟨_, (H0.out.alloc _).alloc _, rp_empty _ _⟩, ⟨_, h1.alloc _, rp_empty _ _⟩, okp0⟩⟩
  have := heap_alloc_new ((w.alloc (.map #[] 0)).alloc (.map #[] 0)) (.cells #[.map (some w.heap.size), .map (some (w.heap.size + 1))] 67 (0, 0))
  simpa using this

set_option maxRecDepth 100000 in
theorem psize_any (hT : Pst base w p a b P B) (id : Int) (hi : I64 id) :
    Calls Tryd.prog 24 #[.pointer (some ⟨p, 0, none⟩), .int .i64 id] w fun e w' => e = .returned (.int .i64 (szOf P id)) ∧ Below w.heap.size w w' := by
  obtain ⟨D, ho, hR⟩ := hT.pown
  have HO := hid ho
  have HA := hid (hR id)
  have HZ := hid (zPl w)
  have HK := hid (kInt id hi)
  have c0 := hT.c0
  have l0 := hT.lt.1
  clear hT ho hR
  cases hq : gt P id with
  | none =>
    have HS : Hid (szOf P id = -1) := by rw [Hid, szOf, hq]
    rw [hq] at HA
    clear hq
    go_enter Tryd.func24, Tryd.ntmps24
    go_wp2_with (at_lookup; refine wpList_lookup_own_ok _ rfl (.tmp 11) (.tmp 12) 64 rfl 3 71 (Maps.int_keyed Tryd.underlying3) Tryd.underlying64 plR HZ.out _ _ (plR_mk (0, 0)) a _ D rfl HO.out _ _ rfl HK.out ?_; intro v ps hv; rw [HA.out.2] at hv; obtain rfl := plR_inv hv; rw [HA.out.1, plv, Option.isSome_none, Option.getD_none]; clear hv)
    go_ret
    rw [HS.out]
    exact ⟨rfl, by refine (Below.refl _ _).alloc (Nat.le_refl _) _⟩
  | some q =>
    have HS : Hid (szOf P id = q.2) := by rw [Hid, szOf, hq]
    rw [hq] at HA
    clear hq
    go_enter Tryd.func24, Tryd.ntmps24
    go_wp2_with (at_lookup; refine wpList_lookup_own_ok _ rfl (.tmp 11) (.tmp 12) 64 rfl 3 71 (Maps.int_keyed Tryd.underlying3) Tryd.underlying64 plR HZ.out _ _ (plR_mk (0, 0)) a _ D rfl HO.out _ _ rfl HK.out ?_; intro v ps hv; rw [HA.out.2] at hv; obtain rfl := plR_inv hv; rw [HA.out.1, plv, Option.isSome_some, Option.getD_some]; clear hv)
    go_ret
    rw [HS.out]
    exact ⟨rfl, by refine (Below.refl _ _).alloc (Nat.le_refl _) _⟩

set_option maxRecDepth 100000 in
theorem plive_any (hT : Pst base w p a b P B) (id : Int) (hi : I64 id) :
    Calls Tryd.prog 26 #[.pointer (some ⟨p, 0, none⟩), .int .i64 id] w fun e w' => e = .returned (.bool (liveOf B id)) ∧ Below w.heap.size w w' := by
  obtain ⟨D, ho, hR⟩ := hT.bown
  have HO := hid ho
  have HA := hid (hR id)
  have HZ := hid (zBf w)
  have HK := hid (kInt id hi)
  have c1 := hT.c1
  have l0 := hT.lt.1
  clear hT ho hR
  cases hq : gt B id with
  | none =>
    have HS : Hid (liveOf B id = false) := by rw [Hid, liveOf, hq]
    rw [hq] at HA
    clear hq
    go_enter Tryd.func26, Tryd.ntmps26
    go_wp2_with (at_lookup; refine wpList_lookup_own_ok _ rfl (.tmp 11) (.tmp 12) 65 rfl 3 77 (Maps.int_keyed Tryd.underlying3) Tryd.underlying65 bfR HZ.out _ _ (bfR_mk (nf0, false)) b _ D rfl HO.out _ _ rfl HK.out ?_; intro v ps hv; rw [HA.out.2] at hv; obtain rfl := bfR_inv hv; rw [HA.out.1, bfv, Option.isSome_none, Option.getD_none]; clear hv)
    go_ret
    rw [HS.out]
    exact ⟨rfl, by refine (Below.refl _ _).alloc (Nat.le_refl _) _⟩
  | some q =>
    obtain ⟨q, dr⟩ := q
    have HS : Hid (liveOf B id = !dr) := by rw [Hid, liveOf, hq]
    rw [hq] at HA
    clear hq
    go_enter Tryd.func26, Tryd.ntmps26
    go_wp2_with (at_lookup; refine wpList_lookup_own_ok _ rfl (.tmp 11) (.tmp 12) 65 rfl 3 77 (Maps.int_keyed Tryd.underlying3) Tryd.underlying65 bfR HZ.out _ _ (bfR_mk (nf0, false)) b _ D rfl HO.out _ _ rfl HK.out ?_; intro v ps hv; rw [HA.out.2] at hv; obtain rfl := bfR_inv hv; rw [HA.out.1, bfv, Option.isSome_some, Option.getD_some]; clear hv)
    go_ret
    rw [HS.out]
    exact ⟨rfl, by refine (Below.refl _ _).alloc (Nat.le_refl _) _⟩

theorem results_cell_tmp {P : Program} {fn : Func} {p u : Tmp} {ty : TypeId} (h : fn.results = #[.cell p ty, .tmp u]) (tmps : Array Value) (w : World) (g : Nat) (t : TypeId) (cs : Array Value) (fr : Nat × Nat) (d : TypeDesc)
    (hp : tmps.getD p undef = .pointer (some ⟨g, 0, none⟩)) (hg : w.heap[g]? = some (.cells cs t fr))
    (hu : P.underlying ty = some d) (hd : (match d with | .struct _ | .array _ _ => true | _ => false) = true) (hi : (P.info? ty).map (·.size) = some cs.size) :
    (results fn tmps).run P w = .ok (.tuple #[.agg cs, tmps.getD u undef]) w := by
  have hp' : tmps[p]?.getD undef = .pointer (some ⟨g, 0, none⟩) := by simpa using hp
  simp [results, h, hp', asAddr, run_loadVar_row w g t ty cs fr d hg hu hd hi]
theorem infoN : (Tryd.prog.info? 60).map (·.size) = some 6 := by kernel_rfl

/-- Info's answer. -/
def infoV (B : BL) (id : Int) : Value := .tuple #[nfv ((gt B id).getD (nf0, false)).1, .bool (gt B id).isSome]

set_option maxRecDepth 100000 in
theorem pinfo_any (hT : Pst base w p a b P B) (id : Int) (hi : I64 id) :
    Calls Tryd.prog 35 #[.pointer (some ⟨p, 0, none⟩), .int .i64 id] w fun e w' => e = .returned (infoV B id) ∧ Below w.heap.size w w' := by
  have hw1 : Below w.heap.size w (w.alloc (.cells #[.int .i64 0, .int .i64 0, .int .i64 0, .int .i64 0, .int .i64 0, .int .i64 0] 60 (0, 0))) := (Below.refl _ _).alloc (Nat.le_refl _) _
  have hT1 := hT.on hw1
  obtain ⟨D, ho, hR⟩ := hT1.bown
  have HO := hid ho
  have HA := hid (hR id)
  have HZ := hid (zBf (w.alloc (.cells #[.int .i64 0, .int .i64 0, .int .i64 0, .int .i64 0, .int .i64 0, .int .i64 0] 60 (0, 0))))
  have HK := hid (kInt id hi)
  have c1 := hT.c1
  have c2 := hT1.c1
  have l0 := hT.lt.1
  have HB := hid hw1
  clear hT ho hR hT1 hw1
  obtain ⟨⟨q, dr⟩, hq⟩ : ∃ q, q = (gt B id).getD (nf0, false) := ⟨_, rfl⟩
  obtain ⟨k, hk⟩ : ∃ k, k = (gt B id).isSome := ⟨_, rfl⟩
  have HV : Hid (infoV B id = .tuple #[nfv q, .bool k]) := by rw [Hid, infoV, ← hq, ← hk]
  rw [← hq, ← hk] at HA
  clear hq hk
  go_enter Tryd.func35, Tryd.ntmps35
  go_wp2_with (at_lookup; refine wpList_lookup_own_ok _ rfl (.tmp 12) (.tmp 13) 65 rfl 3 77 (Maps.int_keyed Tryd.underlying3) Tryd.underlying65 bfR HZ.out _ _ (bfR_mk (nf0, false)) b _ D rfl HO.out _ _ rfl HK.out ?_; intro v ps hv; rw [HA.out.2] at hv; obtain rfl := bfR_inv hv; rw [HA.out.1, bfv]; clear hv)
  refine bodyPost_ret (results_cell_tmp rfl _ _ w.heap.size _ _ _ _ rfl ((heap_alloc_old _ _ (by simp)).trans (heap_alloc_new w _)) Tryd.underlying60 rfl infoN) rfl ?_
  rw [HV.out]
  have hb : Below w.heap.size w (w.alloc (.cells #[.int .i64 q.k, .int .i64 q.o, .int .i64 q.w, .int .i64 q.h, .int .i64 q.s, .int .i64 q.f] 60)) := (Below.refl _ _).alloc (Nat.le_refl _) _
  exact ⟨rfl, hb.alloc hb.size _⟩

set_option maxRecDepth 100000 in
theorem pdrop_any (hE : Errs w gerrs es) (hT : Pst base w p a b P B) (id : Int) (hi : I64 id) :
    Calls Tryd.prog 16 #[.pointer (some ⟨p, 0, none⟩), .int .i64 id] w fun e w' => e = .returned (erv es (dpE P id)) ∧ Pst base w' p a b (rm P id) B ∧ Kp [a] w w' := by
  obtain ⟨D, ho, hR⟩ := hT.pown
  have HO := hid ho
  have HA := hid (hR id)
  have HZ := hid (zPl w)
  have HK := hid (kInt id hi)
  have c0 := hT.c0
  have l0 := hT.lt.1
  cases hq : gt P id with
  | none =>
    have HS : Hid (dpE P id = 5 ∧ rm P id = P) := ⟨by rw [dpE, hq]; rfl, rm_none hq⟩
    have HT := hid hT
    have hb : Below w.heap.size w (w.alloc (.cells #[.int .i64 0, .int .i64 0] 71)) := (Below.refl _ _).alloc (Nat.le_refl _) _
    have c5 := (hE.below hb).at_ 4 _ rfl
    have l5 := World.block_lt_of_cell? _ _ c5
    have HB := hid hb
    rw [hq] at HA
    clear hq hT ho hR hb hE
    go_enter Tryd.func16, Tryd.ntmps16
    go_wp2_with (at_lookup; refine wpList_lookup_own_ok _ rfl (.tmp 11) (.tmp 12) 64 rfl 3 71 (Maps.int_keyed Tryd.underlying3) Tryd.underlying64 plR HZ.out _ _ (plR_mk (0, 0)) a _ D rfl HO.out _ _ rfl HK.out ?_; intro v ps hv; rw [HA.out.2] at hv; obtain rfl := plR_inv hv; rw [HA.out.1, plv, Option.isSome_none, Option.getD_none]; clear hv)
    go_ret
    rw [HS.out.1, HS.out.2]
    exact ⟨rfl, HT.out.on HB.out, kp_of_below HB.out _⟩
  | some q =>
    have HS : Hid (dpE P id = 0) := by rw [Hid, dpE, hq]; rfl
    have hb : Below w.heap.size w (w.alloc (.cells #[.int .i64 q.1, .int .i64 q.2] 71)) := (Below.refl _ _).alloc (Nat.le_refl _) _
    have hT2 := hT.on hb
    have ho2 := ho.alloc (.cells #[.int .i64 q.1, .int .i64 q.2] 71)
    have c2 := hT2.c0
    have HN : Hid (∀ u, u.ownsMap Tryd.prog 3 plR a P.length (D.del (.int .i64 id)) → (w.alloc (.cells #[.int .i64 q.1, .int .i64 q.2] 71)).mapTurned u a → Pst base u p a b (rm P id) B ∧ Kp [a] w u) := fun u hu ht =>
      ⟨hT2.turnedP ht hu (hR.del id) (hT.ok.rmp id), (kp_of_below hb [a]).trans (kp_turned ht) (fun k hk _ => hk)⟩
    have HO2 := hid ho2
    rw [hq] at HA
    clear hq hT ho hR hb hE hT2 ho2
    go_enter Tryd.func16, Tryd.ntmps16
    go_wp2_with (first | (at_lookup; refine wpList_lookup_own_ok _ rfl (.tmp 11) (.tmp 12) 64 rfl 3 71 (Maps.int_keyed Tryd.underlying3) Tryd.underlying64 plR HZ.out _ _ (plR_mk (0, 0)) a _ D rfl HO.out _ _ rfl HK.out ?_; intro v ps hv; rw [HA.out.2] at hv; obtain rfl := plR_inv hv; rw [HA.out.1, plv, Option.isSome_some, Option.getD_some]; clear hv) | (at_delete; refine wpList_delete_own _ rfl (.tmp 22) (.tmp 23) 64 3 rfl 71 (Maps.int_keyed Tryd.underlying3) Tryd.underlying64 plR a _ D rfl HO2.out _ _ rfl HK.out ?_; intro w2 o2 t2; have HX := hid (HN.out _ o2 t2); clear o2 t2))
    go_ret
    rw [HS.out]
    exact ⟨rfl, HX.out.1, HX.out.2⟩

set_option maxRecDepth 100000 in
theorem pforget_any (hT : Pst base w p a b P B) (id : Int) (hi : I64 id) :
    Calls Tryd.prog 20 #[.pointer (some ⟨p, 0, none⟩), .int .i64 id] w fun e w' => e = .returned undef ∧ Pst base w' p a b P (rm B id) ∧ Kp [b] w w' := by
  obtain ⟨D, ho, hR⟩ := hT.bown
  have HO := hid ho
  have HK := hid (kInt id hi)
  have c1 := hT.c1
  have l0 := hT.lt.1
  have HN : Hid (∀ u, u.ownsMap Tryd.prog 3 bfR b B.length (D.del (.int .i64 id)) → w.mapTurned u b → Pst base u p a b P (rm B id) ∧ Kp [b] w u) := fun u hu ht =>
    ⟨hT.turnedB ht hu (hR.del id) (hT.ok.rmb id), kp_turned ht⟩
  clear hT ho hR
  go_enter Tryd.func20, Tryd.ntmps20
  go_wp2_with (at_delete; refine wpList_delete_own _ rfl (.tmp 7) (.tmp 8) 65 3 rfl 77 (Maps.int_keyed Tryd.underlying3) Tryd.underlying65 bfR b _ D rfl HO.out _ _ rfl HK.out ?_; intro w2 o2 t2; have HX := hid (HN.out _ o2 t2); clear o2 t2)
  go_end0
  exact ⟨rfl, HX.out.1, HX.out.2⟩
end Go.Proofs.YtnfenfleahennaaDoor
