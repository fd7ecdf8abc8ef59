/- The contracts of the program's pool, III: Buffer. -/
import Derived.Test.YtnfenfleahennaaDoorPolD
namespace Go.Proofs.YtnfenfleahennaaDoor
open Go Go.RowKit

def bufE (P : PL) (B : BL) (id pool off wd h st fm : Int) : Nat := match gt P pool with
  | none => 5
  | some q => if (gt B id).isSome then 5 else rmE q.2 off wd h st fm
def bufS (P : PL) (B : BL) (id pool off wd h st fm : Int) : BL := if bufE P B id pool off wd h st fm = 0 then wr B id (⟨((gt P pool).getD (0, 0)).1, off, wd, h, st, fm⟩, false) else B

variable {base : Nat} {w w' : World} {p a b : Nat} {P : PL} {B : BL} {es : List Addr}

theorem bld77 (a b c d e f : Int) (w : World) : (Instr.build 77 #[(0, .agg #[.int .i64 a, .int .i64 b, .int .i64 c, .int .i64 d, .int .i64 e, .int .i64 f])]).run Tryd.prog w = .ok (.agg #[.int .i64 a, .int .i64 b, .int .i64 c, .int .i64 d, .int .i64 e, .int .i64 f, .bool false]) w := by kernel_rfl

set_option maxRecDepth 100000 in
theorem pbuffer_any (hE : Errs w gerrs es) (hT : Pst base w p a b P B) (hn : B.length < 1000) (id pool off wd h st fm : Int) (hi : I64 id) (hp : I64 pool) (h1 : I64 off) (h2 : I64 wd) (h3 : I64 h) (h4 : I64 st) :
    Calls Tryd.prog 22 #[.pointer (some ⟨p, 0, none⟩), .int .i64 id, .int .i64 pool, .int .i64 off, .int .i64 wd, .int .i64 h, .int .i64 st, .int .i64 fm] w fun e w' => Gavb base w es p a b (bufE P B id pool off wd h st fm) P (bufS P B id pool off wd h st fm) e w' := by
  obtain ⟨D, ho, hR⟩ := hT.pown
  have HO := hid ho
  have HA := hid (hR pool)
  have HZ := hid (zPl w)
  have HK := hid (kInt pool hp)
  have HK2 := hid (kInt id hi)
  have c0 := hT.c0
  have l0 := hT.lt.1
  cases hq : gt P pool with
  | none =>
    have hb : Below w.heap.size w (w.alloc (.cells #[.int .i64 0, .int .i64 0] 71)) := (Below.refl _ _).alloc (Nat.le_refl _) _
    have c5 := (hE.below hb).at_ 4 _ rfl
    have l5 := World.block_lt_of_cell? _ _ c5
    have he : bufE P B id pool off wd h st fm = 5 := by rw [bufE, hq]
    have HX : Hid (Gavb base w es p a b (bufE P B id pool off wd h st fm) P (bufS P B id pool off wd h st fm) (.returned (erv es 5)) (w.alloc (.cells #[.int .i64 0, .int .i64 0] 71))) := by
      rw [Hid, bufS, he, if_neg (by decide)]
      exact ⟨rfl, hT.on hb, kp_of_below hb _⟩
    rw [hq] at HA
    clear hq hT ho hR hb hE he
    go_enter Tryd.func22, Tryd.ntmps22
    go_wp2_with (at_lookup; refine wpList_lookup_own_ok _ rfl (.tmp 26) (.tmp 27) 64 rfl 3 71 (Maps.int_keyed Tryd.underlying3) Tryd.underlying64 plR HZ.out _ _ (plR_mk (0, 0)) a _ D rfl HO.out _ _ rfl HK.out ?_; intro v ps hv; rw [HA.out.2] at hv; obtain rfl := plR_inv hv; rw [HA.out.1, plv, Option.isSome_none, Option.getD_none]; clear hv)
    go_ret
    exact HX.out
  | some q =>
    have hsz := hT.ok.at_ hq
    obtain ⟨k, sz⟩ := q
    simp only at hsz
    have hb : Below w.heap.size w (w.alloc (.cells #[.int .i64 k, .int .i64 sz] 71)) := (Below.refl _ _).alloc (Nat.le_refl _) _
    have hT1 := hT.on hb
    obtain ⟨D2, ho2, hR2⟩ := hT1.bown
    have HO2 := hid ho2
    have HA2 := hid (hR2 id)
    have HZ2 := hid (zBf (w.alloc (.cells #[.int .i64 k, .int .i64 sz] 71)))
    have c1 := hT1.c1
    cases hg : gt B id with
    | some x =>
      obtain ⟨x, dr⟩ := x
      have hb2 : Below w.heap.size w ((w.alloc (.cells #[.int .i64 k, .int .i64 sz] 71)).alloc (.cells #[.int .i64 x.k, .int .i64 x.o, .int .i64 x.w, .int .i64 x.h, .int .i64 x.s, .int .i64 x.f, .bool dr] 77)) := hb.alloc hb.size _
      have c5 := (hE.below hb2).at_ 4 _ rfl
      have l5 := World.block_lt_of_cell? _ _ c5
      have he : bufE P B id pool off wd h st fm = 5 := by rw [bufE, hq, hg]; rfl
      have HX : Hid (Gavb base w es p a b (bufE P B id pool off wd h st fm) P (bufS P B id pool off wd h st fm) (.returned (erv es 5)) ((w.alloc (.cells #[.int .i64 k, .int .i64 sz] 71)).alloc (.cells #[.int .i64 x.k, .int .i64 x.o, .int .i64 x.w, .int .i64 x.h, .int .i64 x.s, .int .i64 x.f, .bool dr] 77))) := by
        rw [Hid, bufS, he, if_neg (by decide)]
        exact ⟨rfl, hT.on hb2, kp_of_below hb2 _⟩
      rw [hq] at HA
      rw [hg] at HA2
      clear hq hg hT ho hR hb hE he ho2 hR2 hT1 hb2
      go_enter Tryd.func22, Tryd.ntmps22
      go_wp2_with (at_lookup; first | (refine wpList_lookup_own_ok _ rfl (.tmp 26) (.tmp 27) 64 rfl 3 71 (Maps.int_keyed Tryd.underlying3) Tryd.underlying64 plR HZ.out _ _ (plR_mk (0, 0)) a _ D rfl HO.out _ _ rfl HK.out ?_; intro v ps hv; rw [HA.out.2] at hv; obtain rfl := plR_inv hv; rw [HA.out.1, plv, Option.isSome_some, Option.getD_some]; clear hv) | (refine wpList_lookup_own_ok _ rfl (.tmp 38) (.tmp 39) 65 rfl 3 77 (Maps.int_keyed Tryd.underlying3) Tryd.underlying65 bfR HZ2.out _ _ (bfR_mk (nf0, false)) b _ D2 rfl HO2.out _ _ rfl HK2.out ?_; intro v ps hv; rw [HA2.out.2] at hv; obtain rfl := bfR_inv hv; rw [HA2.out.1, bfv, Option.isSome_some, Option.getD_some]; clear hv))
      go_ret
      exact HX.out
    | none =>
      have hb2 : Below w.heap.size w ((w.alloc (.cells #[.int .i64 k, .int .i64 sz] 71)).alloc (.cells #[.int .i64 0, .int .i64 0, .int .i64 0, .int .i64 0, .int .i64 0, .int .i64 0, .bool false] 77)) := hb.alloc hb.size _
      have hT2 := hT.on hb2
      have he : bufE P B id pool off wd h st fm = rmE sz off wd h st fm := by rw [bufE, hq, hg]; rfl
      have HM := hid (room_any es sz off wd h st fm _ (hE.below hb2) (by omega) h1 h2 h3 h4)
      have hs : bufS P B id pool off wd h st fm = if rmE sz off wd h st fm = 0 then wr B id (⟨k, off, wd, h, st, fm⟩, false) else B := by rw [bufS, he, hq]; rfl
      rw [he, hs]
      rw [hq] at HA
      rw [hg] at HA2
      have hz0 : Hid (bfv (nf0, false) = .agg #[.int .i64 0, .int .i64 0, .int .i64 0, .int .i64 0, .int .i64 0, .int .i64 0, .bool false]) := rfl
      cases hr : rmE sz off wd h st fm with
      | succ r =>
        rw [hr] at HM
        rw [if_neg (by omega)]
        obtain ⟨xr, hxr⟩ : ∃ z, erv es (r + 1) = .iface 128 (.pointer (some z)) := ⟨_, rfl⟩
        have HX : Hid (Gavb base w es p a b (r + 1) P B (.returned (.iface 128 (.pointer (some xr)))) ((w.alloc (.cells #[.int .i64 k, .int .i64 sz] 71)).alloc (.cells #[.int .i64 0, .int .i64 0, .int .i64 0, .int .i64 0, .int .i64 0, .int .i64 0, .bool false] 77))) := by
          rw [← hxr]
          exact ⟨rfl, hT2, kp_of_below hb2 _⟩
        rw [hxr] at HM
        clear hq hg hT ho hR hb hE he ho2 hR2 hT1 hb2 hT2 hs hr hxr
        go_enter Tryd.func22, Tryd.ntmps22
        go_wp2_with (at_lookup; first | (refine wpList_lookup_own_ok _ rfl (.tmp 26) (.tmp 27) 64 rfl 3 71 (Maps.int_keyed Tryd.underlying3) Tryd.underlying64 plR HZ.out _ _ (plR_mk (0, 0)) a _ D rfl HO.out _ _ rfl HK.out ?_; intro v ps hv; rw [HA.out.2] at hv; obtain rfl := plR_inv hv; rw [HA.out.1, plv, Option.isSome_some, Option.getD_some]; clear hv) | (refine wpList_lookup_own_ok _ rfl (.tmp 38) (.tmp 39) 65 rfl 3 77 (Maps.int_keyed Tryd.underlying3) Tryd.underlying65 bfR HZ2.out _ _ (bfR_mk (nf0, false)) b _ D2 rfl HO2.out _ _ rfl HK2.out ?_; intro v ps hv; rw [HA2.out.2] at hv; obtain rfl := bfR_inv hv; rw [HA2.out.1, Option.getD_none, hz0.out, Option.isSome_none]; clear hv))
        refine HM.out.mono ?_
        rintro e w1 ⟨rfl, rfl⟩
        go_wp2
        go_ret
        exact HX.out
      | zero =>
        rw [hr, show erv es 0 = .nilIface from rfl] at HM
        rw [if_pos rfl]
        have HT2 := hid hT2
        have HB := hid hb2
        have hg0 : ((w.alloc (.cells #[.int .i64 k, .int .i64 sz] 71)).alloc (.cells #[.int .i64 0, .int .i64 0, .int .i64 0, .int .i64 0, .int .i64 0, .int .i64 0, .bool false] 77)).cell? ⟨w.heap.size, 0, none⟩ = some (.int .i64 k) := by rw [Lib.cell_of_heap ((heap_alloc_old _ _ (by simp)).trans (heap_alloc_new w _))]; rfl
        have HG0 := hid hg0
        have HL := hid hT.lt
        clear hq hg hT ho hR hb hE he ho2 hR2 hT1 hb2 hT2 hs hr hg0
        go_enter Tryd.func22, Tryd.ntmps22
        go_wp2_with (at_lookup; first | (refine wpList_lookup_own_ok _ rfl (.tmp 26) (.tmp 27) 64 rfl 3 71 (Maps.int_keyed Tryd.underlying3) Tryd.underlying64 plR HZ.out _ _ (plR_mk (0, 0)) a _ D rfl HO.out _ _ rfl HK.out ?_; intro v ps hv; rw [HA.out.2] at hv; obtain rfl := plR_inv hv; rw [HA.out.1, plv, Option.isSome_some, Option.getD_some]; clear hv) | (refine wpList_lookup_own_ok _ rfl (.tmp 38) (.tmp 39) 65 rfl 3 77 (Maps.int_keyed Tryd.underlying3) Tryd.underlying65 bfR HZ2.out _ _ (bfR_mk (nf0, false)) b _ D2 rfl HO2.out _ _ rfl HK2.out ?_; intro v ps hv; rw [HA2.out.2] at hv; obtain rfl := bfR_inv hv; rw [HA2.out.1, Option.getD_none, hz0.out, Option.isSome_none]; clear hv))
        refine HM.out.mono ?_
        rintro e w1 ⟨rfl, hw1⟩
        rw [← hw1] at HT2 HB HG0
        clear hw1 HO2 HZ2 c1 HA HA2 HZ HO c0
        go_wp2_with fail
        obtain ⟨D3, ho3, hR3⟩ := HT2.out.drew.bown
        have HO3 := hid ho3
        have HR3 := hid hR3
        have HP1 := hid HT2.out.c1
        have hbl := bld77
        clear ho3 hR3
        have hHeld := (show _ ∧ _ from ⟨HP1.out, HG0.out⟩)
        refine wp_region_held_drew (S := fun x => x.cell? ⟨p, 1, none⟩ = some (.map (some b)) ∧ x.cell? ⟨w.heap.size, 0, none⟩ = some (.int .i64 k)) (by kernel_rfl) hHeld (fun _ => ?_)
        refine wpAnyH_take (i := 0) (v := ?_) rfl (by kernel_rfl) (by kernel_rfl) (by kernel_rfl) (fun _ _ _ h => h) (Or.inl ⟨by kernel_rfl, ?hy0⟩) (by assumption) ?_
        case hy0 => (intro w hSw; (try dsimp only at hSw); obtain ⟨t0, t1⟩ := hSw; go_simp; try with_reducible rfl)
        try simp only [Act.put, List.getElem_toArray, List.getElem_cons_zero, List.setIfInBounds_toArray, List.set_cons_zero, List.set_cons_succ]
        refine wpAnyH_take (i := 1) (v := ?_) rfl (by kernel_rfl) (by kernel_rfl) (by kernel_rfl) (fun _ _ _ h => h) (Or.inl ⟨by kernel_rfl, ?hy1⟩) (by assumption) ?_
        case hy1 => (intro w hSw; (try dsimp only at hSw); obtain ⟨t0, t1⟩ := hSw; go_simp; try with_reducible rfl)
        try simp only [Act.put, List.getElem_toArray, List.getElem_cons_zero, List.getElem_cons_succ, List.setIfInBounds_toArray, List.set_cons_zero, List.set_cons_succ]
        refine wpAnyH_take (i := 2) (v := ?_) rfl (by kernel_rfl) (by kernel_rfl) (by kernel_rfl) (fun _ _ _ h => h) (Or.inl ⟨by kernel_rfl, ?hy2⟩) (by assumption) ?_
        case hy2 => (intro w hSw; (try dsimp only at hSw); obtain ⟨t0, t1⟩ := hSw; go_simp; try with_reducible rfl)
        try simp only [Act.put, List.getElem_toArray, List.getElem_cons_zero, List.getElem_cons_succ, List.setIfInBounds_toArray, List.set_cons_zero, List.set_cons_succ]
        refine wpAnyH_take (i := 3) (v := ?_) rfl (by kernel_rfl) (by kernel_rfl) (by kernel_rfl) (fun _ _ _ h => h) (Or.inl ⟨by kernel_rfl, ?hy3⟩) (by assumption) ?_
        case hy3 => (intro w hSw; (try dsimp only at hSw); obtain ⟨t0, t1⟩ := hSw; go_simp; try with_reducible rfl)
        try simp only [Act.put, List.getElem_toArray, List.getElem_cons_zero, List.getElem_cons_succ, List.setIfInBounds_toArray, List.set_cons_zero, List.set_cons_succ]
        refine wpAnyH_take (i := 4) (v := ?_) rfl (by kernel_rfl) (by kernel_rfl) (by kernel_rfl) (fun _ _ _ h => h) (Or.inl ⟨by kernel_rfl, ?hy4⟩) (by assumption) ?_
        case hy4 => (intro w hSw; (try dsimp only at hSw); obtain ⟨t0, t1⟩ := hSw; go_simp; try with_reducible rfl)
        try simp only [Act.put, List.getElem_toArray, List.getElem_cons_zero, List.getElem_cons_succ, List.setIfInBounds_toArray, List.set_cons_zero, List.set_cons_succ]
        refine wpAnyH_take (i := 5) (v := ?_) rfl (by kernel_rfl) (by kernel_rfl) (by kernel_rfl) (fun _ _ _ h => h) (Or.inl ⟨by kernel_rfl, ?hy5⟩) (by assumption) ?_
        case hy5 => (intro w hSw; (try dsimp only at hSw); obtain ⟨t0, t1⟩ := hSw; go_simp; try with_reducible rfl)
        try simp only [Act.put, List.getElem_toArray, List.getElem_cons_zero, List.getElem_cons_succ, List.setIfInBounds_toArray, List.set_cons_zero, List.set_cons_succ]
        refine wpAnyH_take (i := 6) (v := ?_) rfl (by kernel_rfl) (by kernel_rfl) (by kernel_rfl) (fun _ _ _ h => h) (Or.inl ⟨by kernel_rfl, ?hy6⟩) (by assumption) ?_
        case hy6 => (intro w hSw; (try dsimp only at hSw); obtain ⟨t0, t1⟩ := hSw; go_simp; try with_reducible rfl)
        try simp only [Act.put, List.getElem_toArray, List.getElem_cons_zero, List.getElem_cons_succ, List.setIfInBounds_toArray, List.set_cons_zero, List.set_cons_succ]
        refine wpAnyH_take (i := 7) (v := ?_) rfl (by kernel_rfl) (by kernel_rfl) (by kernel_rfl) (fun _ _ _ h => h) (Or.inl ⟨by kernel_rfl, ?hy7⟩) (by assumption) ?_
        case hy7 => (intro w hSw; (try dsimp only at hSw); obtain ⟨t0, t1⟩ := hSw; go_simp; try with_reducible rfl)
        try simp only [Act.put, List.getElem_toArray, List.getElem_cons_zero, List.getElem_cons_succ, List.setIfInBounds_toArray, List.set_cons_zero, List.set_cons_succ]
        refine wpAnyH_take (i := 8) (v := ?_) rfl (by kernel_rfl) (by kernel_rfl) (by kernel_rfl) (fun _ _ _ h => h) (Or.inl ⟨by kernel_rfl, ?hy8⟩) (by assumption) ?_
        case hy8 => (intro w hSw; (try dsimp only at hSw); obtain ⟨t0, t1⟩ := hSw; go_simp; try with_reducible rfl)
        try simp only [Act.put, List.getElem_toArray, List.getElem_cons_zero, List.getElem_cons_succ, List.setIfInBounds_toArray, List.set_cons_zero, List.set_cons_succ]
        refine wpAnyH_take (i := 9) (v := ?_) rfl (by kernel_rfl) (by kernel_rfl) (by kernel_rfl) (fun _ _ _ h => h) (Or.inl ⟨by kernel_rfl, ?hy9⟩) (by assumption) ?_
        case hy9 => (intro w hSw; (try dsimp only at hSw); obtain ⟨t0, t1⟩ := hSw; go_simp; try with_reducible rfl)
        try simp only [Act.put, List.getElem_toArray, List.getElem_cons_zero, List.getElem_cons_succ, List.setIfInBounds_toArray, List.set_cons_zero, List.set_cons_succ]
        refine wpAnyH_take (i := 10) (v := ?_) rfl (by kernel_rfl) (by kernel_rfl) (by kernel_rfl) (fun _ _ _ h => h) (Or.inl ⟨by kernel_rfl, ?hy10⟩) (by assumption) ?_
        case hy10 => (intro w hSw; (try dsimp only at hSw); obtain ⟨t0, t1⟩ := hSw; go_simp; try with_reducible rfl)
        try simp only [Act.put, List.getElem_toArray, List.getElem_cons_zero, List.getElem_cons_succ, List.setIfInBounds_toArray, List.set_cons_zero, List.set_cons_succ]
        refine wpAnyH_take (i := 11) (v := ?_) rfl (by kernel_rfl) (by kernel_rfl) (by kernel_rfl) (fun _ _ _ h => h) (Or.inl ⟨by kernel_rfl, ?hy11⟩) (by assumption) ?_
        case hy11 => (intro w hSw; (try dsimp only at hSw); obtain ⟨t0, t1⟩ := hSw; go_simp; try with_reducible rfl)
        try simp only [Act.put, List.getElem_toArray, List.getElem_cons_zero, List.getElem_cons_succ, List.setIfInBounds_toArray, List.set_cons_zero, List.set_cons_succ]
        refine wpAnyH_take (i := 12) (v := ?_) rfl (by kernel_rfl) (by kernel_rfl) (by kernel_rfl) (fun _ _ _ h => h) (Or.inl ⟨by kernel_rfl, ?hy12⟩) (by assumption) ?_
        case hy12 => (intro w hSw; (try dsimp only at hSw); obtain ⟨t0, t1⟩ := hSw; go_simp; try with_reducible rfl)
        try simp only [Act.put, List.getElem_toArray, List.getElem_cons_zero, List.getElem_cons_succ, List.setIfInBounds_toArray, List.set_cons_zero, List.set_cons_succ]
        refine wpAnyH_take (i := 13) (v := ?_) rfl (by kernel_rfl) (by kernel_rfl) (by kernel_rfl) (fun _ _ _ h => h) (Or.inl ⟨by kernel_rfl, ?hy13⟩) (by assumption) ?_
        case hy13 => (intro w hSw; (try dsimp only at hSw); obtain ⟨t0, t1⟩ := hSw; go_simp; try with_reducible rfl)
        try simp only [Act.put, List.getElem_toArray, List.getElem_cons_zero, List.getElem_cons_succ, List.setIfInBounds_toArray, List.set_cons_zero, List.set_cons_succ]
        refine wpAnyH_ready (rs := [14]) (by kernel_rfl) (by simp) ?_
        refine AllReadyH.cons rfl (fun K hK => ?_) AllReadyH.nil
        refine step_mapUpdate_own rfl (.tmp 59) (.tmp 60) (.tmp 69) 65 rfl 3 77 (Maps.int_keyed Tryd.underlying3) Tryd.underlying65 bfR b _ D3 (by simp [Act.eval]) HO3.out (by simp only [maxLen]; omega) _ _ _ rfl rfl HK2.out _ _ (bfR_mk (⟨k, off, wd, h, st, fm⟩, false)) ?_
        intro w2 o2 t2
        have hk2 := kp_turned t2
        refine hK.out _ _ (show _ ∧ _ from ⟨hk2.cell HP1.out (by simpa using HT2.out.npb), hk2.cell HG0.out (by have := HL.out.2.2; simp; omega)⟩) (fun _ => ?_)
        clear hK K hHeld
        refine wpAnyH_done (by kernel_rfl) ?_ _
        have HX : Hid (Pst base w2 p a b P (wr B id (⟨k, off, wd, h, st, fm⟩, false)) ∧ Kp [b] w w2) := ⟨HT2.out.drew.turnedB t2 o2 (HR3.out.put HO3.out.isMap id _) (HT2.out.ok.wrb id _), (kp_of_below (Below.on HB.out (Below.refl _ _).drew) [b]).trans hk2 (fun k hk _ => hk)⟩
        clear o2 t2 hk2
        go_wp2
        go_ret
        exact ⟨rfl, HX.out.1, HX.out.2⟩
end Go.Proofs.YtnfenfleahennaaDoor
