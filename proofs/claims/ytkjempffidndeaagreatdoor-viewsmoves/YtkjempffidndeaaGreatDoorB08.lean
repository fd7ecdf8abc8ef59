/- Lemmas that the proof leans on. -/
import Derived.Test.YtkjempffidndeaaGreatDoorB07
namespace Go.Proofs.YtkjempffidndeaaGreatDoor
open Go Go.RowKit
set_option maxRecDepth 100000
set_option maxHeartbeats 1000000
section
variable {α : Type} {P : Program}
def HandsX (P : Program) (gf : Nat) (bd cap : Array Value) (encs : α → Array Value) (xs : List α) (K : World → Prop) : Prop :=
 ∀ (n l : Nat) (J : Nat → List Nat → World → Prop) (Jx : World → Prop) (W : World), (∀ k X W1, J k X W1 → K W1) → (∀ k X W1, J k X W1 → ∀ q ∈ X, q < W1.heap.size) →
  (∀ k X W1 W2, J k X W1 → Itr W.heap.size W1 W2 → J k X W2) → (∀ W1 W2, Jx W1 → Itr W.heap.size W1 W2 → Jx W2) →
  (∀ m k X x W1, J k X W1 → xs[k]? = some x → YieldAt Fence.wide m P l (encs x) W1 fun e W' => Rnd W.heap.size X W1 W' ∧ ((e = .returned (.bool true) ∧ ∃ X', (∀ q ∈ X', q ∈ X ∨ W1.heap.size ≤ q) ∧ J (k + 1) X' W') ∨ (e = .returned (.bool false) ∧ Jx W'))) →
  J 0 [] W → CallsIn Fence.wide n P gf (bd ++ #[.func (.yield l) #[] #[]] ++ cap) W fun e W' => (∃ v, e = .returned v) ∧ ((∃ X, J xs.length X W') ∨ Jx W')
theorem wp_range_capX {g : Operand} {ps : Array Tmp} {assign body : Code} {Q : Exit → Act → World → Prop} {a : Act} {w : World} {n gf : Nat} {bd cap : Array Value}
  (hg : a.eval g = .func (.func gf) bd cap) (eg : ∀ args w, (callFunc gf args).run P w = .ok (.enter gf args) w)
  {encs : α → Array Value} {xs : List α} {K : World → Prop} (hseq : HandsX P gf bd cap encs xs K) (hps : ∀ x, (encs x).size = ps.size)
  (I : Nat → List Nat → World → Prop) (Ix : Code → World → Prop) (hI : ∀ k X W W', I k X W → Itr w.heap.size W W' → I k X W') (hIx : ∀ c W W', Ix c W → Itr w.heap.size W W' → Ix c W')
  (hK : ∀ k X W, I k X W → K W) (hlt : ∀ k X W, I k X W → ∀ q ∈ X, q < W.heap.size) (h0 : I 0 [] w)
  (hround : ∀ (m l k : Nat) (X : List Nat) (x : α) (W : World), I k X W → xs[k]? = some x → w.heap.size + 1 < W.heap.size → (w.heap.size ∉ X ∧ w.heap.size + 1 ∉ X) →
   assign.wpIn (Fence.wide.inRound l) m P (Exit.then (fun a' W' => Rnd w.heap.size X W W' ∧ ∀ W2, Kp [w.heap.size + 1] W' W2 → Itr w.heap.size W' W2 → body.wpIn (Fence.wide.inRound l) m P (rndC w.heap.size X W.heap.size (I (k + 1)) Ix W2) a' W2) (fun _ _ _ => False))
    { tmps := (ps.zip (encs x)).foldl (fun t (p, v) => t.setIfInBounds p v) a.tmps, defers := [] } W)
  (hdone : ∀ (D : Nat) (X : List Nat) (W : World), w.heap.size ≤ D → I xs.length X W → D ∉ X → W.heap[D]? = some (.deferred (some [])) → Q .normal { a with defers := { target := .collected D, args := #[] } :: a.defers } W)
  (hstop : ∀ (D : Nat) (c : Code) (W : World), w.heap.size ≤ D → Ix c W → W.heap[D]? = some (.deferred (some [])) → c.wpIn Fence.wide n P Q { a with defers := { target := .collected D, args := #[] } :: a.defers } W) :
  (Code.rangeFunc g ps assign body).wpIn Fence.wide n P Q a w := by
 refine wpIn_rangeFunc fun fn hfn => ?_
 obtain ⟨R, hR⟩ : ∃ R : LoopState → Option Code → Loop, R = fun s j => { state := s, pending := j, fn, tmps := a.tmps, params := ps, assign, body, defers := w.heap.size } := ⟨_, rfl⟩
 obtain ⟨B, hB⟩ : ∃ B, B = w.heap.size := ⟨_, rfl⟩
 obtain ⟨W1, hW1⟩ : ∃ W1, W1 = (w.alloc (.deferred (some []))).alloc (.loop (R .ready none)) := ⟨_, rfl⟩
 have hb1 : Below w.heap.size w W1 := by
  rw [hW1]
  exact ((Below.refl _ w).alloc (Nat.le_refl _) _).alloc (by simp) _
 have hs1 : W1.heap.size = B + 1 + 1 := by rw [hW1, hB]; simp
 have hr1 : W1.heap[B + 1]? = some (.loop (R .ready none)) := by
  have := World.alloc_heap_new (w.alloc (.deferred (some []))) (.loop (R .ready none))
  rwa [World.size_alloc, ← hW1, ← hB] at this
 have hd1 : W1.heap[B]? = some (.deferred (some [])) := by
  rw [hW1, hB]
  exact (Below.heap_alloc _ _ _ (by simp)).trans (World.alloc_heap_new w _)
 obtain ⟨J, hJ⟩ : ∃ J : Nat → List Nat → World → Prop, J = fun k X W => I k X W ∧ (B ∉ X ∧ B + 1 ∉ X) ∧ W.heap[B + 1]? = some (.loop (R .ready none)) ∧ W.heap[B]? = some (.deferred (some [])) := ⟨_, rfl⟩
 obtain ⟨Jx, hJx⟩ : ∃ Jx : World → Prop, Jx = fun W => ∃ c, Ix c W ∧ W.heap[B + 1]? = some (.loop (R .done (some c))) ∧ W.heap[B]? = some (.deferred (some [])) := ⟨_, rfl⟩
 have end_ : ∀ (j : Option Code) (W3 : World), W3.heap[B + 1]? = some (.loop { R .ready none with state := .busy }) →
   (Instr.endRound (B + 1) j).run P W3 = .ok (.bool j.isNone) (W3.putObj (B + 1) (.loop (R (if j.isNone then .ready else .done) j))) := fun j W3 h3 => by
  have := run_endRound (P := P) j h3
  rw [hR] at this ⊢
  exact this
 have round : ∀ m k X x W2, J k X W2 → xs[k]? = some x → YieldAt Fence.wide m P (B + 1) (encs x) W2 fun e W' => Rnd W1.heap.size X W2 W' ∧ ((e = .returned (.bool true) ∧ ∃ X', (∀ q ∈ X', q ∈ X ∨ W2.heap.size ≤ q) ∧ J (k + 1) X' W') ∨ (e = .returned (.bool false) ∧ Jx W')) := by
  intro m k X x W2 h2 hx
  rw [hJ] at h2
  obtain ⟨hi, hBX, hr, hd⟩ := h2
  have hl : B + 1 < W2.heap.size := (Array.getElem?_eq_some_iff.1 hr).1
  have hy := run_yield (P := P) (args := encs x) hr (by rw [hR]; exact hps x)
  rw [hR] at hy
  refine ⟨fn, _, assign, body, hy, roundIn_of_wpIn hfn (wpIn_mono (hround m (B + 1) k X x W2 hi hx (by omega) (hB ▸ hBX)) ?_)⟩
  intro e a' W2' he
  cases e with
  | normal =>
   obtain ⟨hk2, hb2⟩ := he
   have hr2 : W2'.heap[B + 1]? = some (.loop (R .ready none)) := hk2.at_ (by omega) hBX.2 hr
   have hd2 : W2'.heap[B]? = some (.deferred (some [])) := hk2.at_ (by omega) hBX.1 hd
   have hl2 : B + 1 < W2'.heap.size := (Array.getElem?_eq_some_iff.1 hr2).1
   refine ⟨_, run_beginRound hr2 (by rw [hR]), ?_⟩
   obtain ⟨W3, hW3⟩ : ∃ W3, W3 = W2'.putObj (B + 1) (.loop { R .ready none with state := .busy }) := ⟨_, rfl⟩
   have hrb : W3.heap[B + 1]? = some (.loop { R .ready none with state := .busy }) := by rw [hW3]; exact World.putObj_heap_same hl2
   have hdb : W3.heap[B]? = some (.deferred (some [])) := by rw [hW3]; exact (World.putObj_heap_other (by omega)).trans hd2
   have hkp : Kp [w.heap.size + 1] W2' W3 := by
    rw [hW3]
    exact ⟨rfl, rfl, rfl, by simp, fun j _ hj => World.putObj_heap_other (fun e => hj (by rw [e, hB]; exact List.mem_singleton.2 rfl))⟩
   have hit : Itr w.heap.size W2' W3 := by rw [hW3]; exact itr_put _ _ _ _ (by omega) hr2 rfl
   have hf3 : Rnd W1.heap.size X W2 W3 := (hk2.mono (by omega)).then (by rw [hW3]; exact rnd_put _ _ _ (by omega))
   rw [← hW3]
   refine wpIn_mono (hb2 W3 hkp hit) ?_
   have on : ∀ (j : Option Code) (W4 : World), Rnd w.heap.size X W3 W4 →
     ∃ W5, (Instr.endRound (B + 1) j).run P W4 = .ok (.bool j.isNone) W5 ∧ Itr w.heap.size W4 W5 ∧ Rnd W1.heap.size X W2 W5 ∧ W5.heap[B + 1]? = some (.loop (R (if j.isNone then .ready else .done) j)) ∧ W5.heap[B]? = some (.deferred (some [])) := fun j W4 h4 => by
    have q1 := h4.at_ (by omega) hBX.2 hrb
    have q2 := h4.at_ (by omega) hBX.1 hdb
    exact ⟨_, end_ j W4 q1, itr_put _ _ _ _ (by omega) q1 rfl, (hf3.then (h4.mono (by omega))).then (rnd_put _ _ _ (by omega)), World.putObj_heap_same (Array.getElem?_eq_some_iff.1 q1).1, (World.putObj_heap_other (by omega)).trans q2⟩
   have out : ∀ (c : Code) (W4 : World), Rnd w.heap.size X W3 W4 ∧ Ix c W4 →
     ∃ v W5, (Instr.endRound (B + 1) (some c)).run P W4 = .ok v W5 ∧ Rnd W1.heap.size X W2 W5 ∧ ((Ending.returned v = .returned (.bool true) ∧ ∃ X', (∀ q ∈ X', q ∈ X ∨ W2.heap.size ≤ q) ∧ J (k + 1) X' W5) ∨ (Ending.returned v = .returned (.bool false) ∧ Jx W5)) := fun c W4 h4 => by
    obtain ⟨W5, q1, q2, q0, q3, q4⟩ := on (some c) W4 h4.1
    exact ⟨_, W5, q1, q0, .inr ⟨rfl, by rw [hJx]; exact ⟨c, hIx _ _ _ h4.2 q2, q3, q4⟩⟩⟩
   intro e a3 W4 hp
   cases e with
   | normal =>
    obtain ⟨hp1, X', hX', hp2⟩ := hp
    obtain ⟨W5, q1, q2, q0, q3, q4⟩ := on none W4 hp1
    refine ⟨_, W5, q1, q0, .inl ⟨rfl, X', hX', ?_⟩⟩
    rw [hJ]
    exact ⟨hI _ _ _ _ hp2 q2, ⟨fun hm => (hX' _ hm).elim hBX.1 (fun h => by omega), fun hm => (hX' _ hm).elim hBX.2 (fun h => by omega)⟩, q3, q4⟩
   | ret => exact out .ret W4 hp
   | exit id => exact out (.exit id) W4 hp
   | goto t => exact out (.goto t) W4 hp
   | panic ch => exact hp.elim
   | outgrown => exact hp.elim
  | ret => exact he.elim
  | exit id => exact he.elim
  | goto t => exact he.elim
  | panic ch => exact he.elim
  | outgrown => exact he.elim
 refine ⟨B + 1, [{ target := .collected B, args := #[] }], W1, { target := .fn (.func gf) cap, args := bd ++ #[.func (.yield (B + 1)) #[] #[]] }, W1, gf, bd ++ #[.func (.yield (B + 1)) #[] #[]] ++ cap, W1, ?_, ?_, ?_, ?_, ?_, ?_⟩
 ·rw [hW1, hR, hB]
  exact run_enterLoop_outer _ _ _ _ _
 ·simp only [resolve, hg]
  simp [go_sem]
 ·intro f' _
  trivial
 ·simp [invoke, go_sem, eg]
 ·intro h
  cases h
 ·refine (hseq (n - 1) (B + 1) J Jx W1 (fun k X W h => by rw [hJ] at h; exact hK k X W h.1) (fun k X W h => by rw [hJ] at h; exact hlt k X W h.1) (fun k X U V h hit => ?_) (fun U V h hit => ?_) round (by rw [hJ]; exact ⟨hI _ _ _ _ h0 (itr_of_below hb1 _), ⟨by simp, by simp⟩, hr1, hd1⟩)).mono ?_
  ·rw [hJ] at h ⊢
   exact ⟨hI _ _ _ _ h.1 (hit.mono (by omega)), h.2.1, hit.block _ _ h.2.2.1 (.inl (by omega)), hit.block _ _ h.2.2.2 (.inl (by omega))⟩
  ·rw [hJx] at h ⊢
   obtain ⟨c, q1, q2, q3⟩ := h
   exact ⟨c, hIx _ _ _ q1 (hit.mono (by omega)), hit.block _ _ q2 (.inl (by omega)), hit.block _ _ q3 (.inl (by omega))⟩
  rintro e W2 ⟨⟨v, rfl⟩, ⟨X, h⟩ | h⟩
  ·rw [hJ] at h
   obtain ⟨hi, hBX, hr, hd⟩ := h
   have := run_endLoop (P := P) hr (by rw [hR]; simp)
   rw [hR] at this
   exact ⟨none, _, this, hdone B X _ (by omega) (hI _ _ _ _ hi (itr_put _ _ _ _ (by omega) hr rfl)) hBX.1 ((World.putObj_heap_other (by omega)).trans hd)⟩
  ·rw [hJx] at h
   obtain ⟨c, hi, hr, hd⟩ := h
   have := run_endLoop (P := P) hr (by rw [hR]; simp)
   rw [hR] at this
   exact ⟨some c, _, this, hstop B c _ (by omega) (hIx _ _ _ hi (itr_put _ _ _ _ (by omega) hr rfl)) ((World.putObj_heap_other (by omega)).trans hd)⟩
end
section
theorem flat_one (l : List (List Int)) : ([l] : List (List (List Int))).flatten = l := by simp
theorem flat_two (l m : List (List Int)) : ([l, m] : List (List (List Int))).flatten = l ++ m := by simp
theorem rdl_one {m : Nat} {w : World} {a : Option Addr} {n c : Nat} {l : List (List Int)} {B T : Nat} (h : RdM m w a n c l) (hb : Bk w B T #[.slice a n c]) : RdL m w B [l] :=
 ⟨fun j x hx => by
  match j, hx with
  | 0, hx => cases hx; exact ⟨a, n, c, hb.cell 0, h, hb.lt⟩
  | j + 1, hx => simp at hx⟩
theorem rdl_two {m : Nat} {w : World} {a a' : Option Addr} {n c n' c' : Nat} {l l' : List (List Int)} {B T : Nat} (h : RdM m w a n c l) (h' : RdM m w a' n' c' l') (hb : Bk w B T #[.slice a n c, .slice a' n' c']) : RdL m w B [l, l'] :=
 ⟨fun j x hx => by
  match j, hx with
  | 0, hx => cases hx; exact ⟨a, n, c, hb.cell 0, h, hb.lt⟩
  | 1, hx => cases hx; exact ⟨a', n', c', hb.cell 1, h', hb.lt⟩
  | j + 2, hx => simp at hx⟩
theorem take_snoc {l : List (List Int)} {j : Nat} {x : List Int} (h : l[j]? = some x) : l.take (j + 1) = l.take j ++ [x] := by
 rw [List.take_add_one, h]
 rfl
theorem src3 (w : World) (z0 z1 z2 : Int) : Src Tryz.prog 3 23 (.slice (some ⟨w.heap.size, 0, none⟩) 1 1) 1 (mcs [[z0, z1, z2]]) (w.alloc (.cells #[.int .i64 z0, .int .i64 z1, .int .i64 z2] 46)) :=
 Src.ofSlice (P := Tryz.prog) _ Tryz.underlying23 ⟨w.heap.size, 0, none⟩ 1 1 (mcs [[z0, z1, z2]]) rfl (fun q u hu => by
  match q, hu with
  | 0, hu => cases hu; simp [Addr.add]
  | 1, hu => cases hu; simp [Addr.add]
  | 2, hu => cases hu; simp [Addr.add]
  | q + 3, hu => simp [mcs] at hu) (mcs_one _)
theorem placed_any (a a' : Option Addr) (n c n' c' : Nat) (l m : List (List Int)) (w : World) (h : RdM 3 w a n c l) (h' : RdM 3 w a' n' c' m) (hn : n + n' ≤ 1000000) :
  Calls Tryz.prog 107 #[.slice a n c, .slice a' n' c'] w fun e w' => ∃ v, e = .returned v ∧ OwM 3 46 w w' v (puts l m) := by
 obtain ⟨i0, hi, hz0, hz1, hz2⟩ := infoMP infoM3
 have hs := h.small
 have hs' := h'.small
 have HL := hid h.len
 have HL' := hid h'.len
 have hb := bel_new w (.cells #[.slice a n c] 23)
 have CJ := joined3_any w.heap.size 1 1 [l] _ (rdl_one (h.on hb) (bk_new w #[.slice a n c] 23)) rfl (by omega) (by rw [flat_one, h.len]; omega)
 rw [flat_one] at CJ
 have HC := hid CJ
 have HB := hid hb
 have H' := hid h'
 clear h h' hb CJ
 go_enter Tryz.func107, Tryz.ntmps107
 go_wp2_with fail
 refine HC.out.mono ?_
 rintro e w1 ⟨v, rfl, hO⟩
 have HO := hid (hO.base HB.out)
 clear hO HC HB
 go_wp2
 go_loopw [5, 14] (fun v i wr => ∃ j : Nat, i = .int .i64 j ∧ j ≤ n' ∧ OwM 3 46 w wr v (puts l (m.take j))) (fun _ i _ => n' - (numOf i).toNat)
 case atStart => exact ⟨0, rfl, by omega, HO.out⟩
 case round =>
  obtain ⟨j, rfl, hj, hO⟩ := hrel
  have HO1 := hid hO
  obtain ⟨a0, c0, rfl, hrd, -⟩ := hO.rd
  clear hO HO
  by_cases hgo : j < n'
  ·have e1 : decide ((j : Int) < n') = true := decide_eq_true (by omega)
   have e3 : (j : Int) < n' := by omega
   obtain ⟨b, off, z0, z1, z2, rfl, hbl, hr, d0, d1, d2⟩ := (H'.out.on HO1.out.bel).el3 hgo
   have hb2 := bel_new wr (.cells #[.int .i64 z0, .int .i64 z1, .int .i64 z2] 46)
   have HK := hid (bk_new wr #[.int .i64 z0, .int .i64 z1, .int .i64 z2] 46)
   have HB := hid hb2
   have HT : Hid (puts l (m.take (j + 1)) = put1 (puts l (m.take j)) [z0, z1, z2]) := by rw [Hid, take_snoc hr, puts_snoc]
   have hN : (puts l (m.take j)).length ≤ n + n' := by
    have h1 := puts_length l (m.take j)
    have h2 := HL.out
    rw [List.length_take] at h1
    omega
   have CI := hid (index_any _ _ _ _ z0 _ (hrd.on hb2))
   clear hr hb2
   cases hx : ixf z0 (puts l (m.take j)) with
   | some i =>
    obtain ⟨hil, -, hput⟩ := ixf_some hx
    rw [hput _ rfl] at HT
    have hixI : ixI z0 (puts l (m.take j)) = i := by rw [ixI, hx]
    rw [hixI] at CI
    obtain ⟨g, cg, hv, hg1, hg2, hg3, hg4⟩ := HO1.out.plain (by omega)
    simp only [Value.slice.injEq] at hv
    obtain ⟨rfl, -, rfl⟩ := hv
    obtain ⟨N, hNN⟩ : ∃ N, (puts l (m.take j)).length = N := ⟨_, rfl⟩
    have HNN := hid hNN
    rw [hNN] at HO1 hrd hil hg3 hN CI ⊢
    have e4 : (i : Int) < N := by omega
    have e5 : (0 : Int) ≤ i := by omega
    have HRD := hid hrd
    clear hrd hx hput hixI hNN
    simp only [maxLen] at hg4
    go_wp2_with fail
    refine CI.out.mono ?_
    rintro e w2 ⟨rfl, hb3⟩
    have hO2 := (HO1.out.on HB.out).on hb3
    have hK2 := HK.out.on hb3
    have t0 := hK2.cell 0
    have t1 := hK2.cell 1
    have t2 := hK2.cell 2
    have fz := hO2.fz HNN.out
    obtain ⟨b', off', y0, y1, y2, hab, _, _, s0, s1, s2⟩ := ((HRD.out.on HB.out).on hb3).el3 hil
    cases hab
    simp only [Nat.zero_add] at s0 s1 s2
    have HO3 := hid (hO2.sto3 HNN.out hil z0 z1 z2)
    rw [← HT.out] at HO3
    clear hO2 hK2 hb3 CI HK HB
    go_wp2
    go_roundw
    case rel => exact ⟨j + 1, by go_num, by omega, HO3.out⟩
    case measure => simp [numOf]; omega
   | none =>
    obtain ⟨hno, -⟩ := ixf_none hx
    rw [put1_none (c := [z0, z1, z2]) hno] at HT
    have hixI : ixI z0 (puts l (m.take j)) = -1 := by rw [ixI, hx]
    rw [hixI] at CI
    clear hrd hx hno hixI
    go_wp2_with fail
    refine CI.out.mono ?_
    rintro e w2 ⟨rfl, hb3⟩
    have hO2 := (HO1.out.on HB.out).on hb3
    have hK2 := HK.out.on hb3
    have t0 := hK2.cell 0
    have t1 := hK2.cell 1
    have t2 := hK2.cell 2
    have hO3 := hO2.on (bel_new w2 (.cells #[.int .i64 z0, .int .i64 z1, .int .i64 z2] 46))
    have HS := hid (src3 w2 z0 z1 z2)
    have HO3 := hid hO3
    have HZ := hid hO3.own
    have hsz := hO3.bel.size
    clear hO2 hK2 hb3 CI HK HB hO3
    go_wp2_with (at_builtin; refine wpList_append_own_src _ rfl (.tmp 28) (.tmp 30) 23 23 rfl w.heap.size 46 i0 (.agg #[.int .i64 0, .int .i64 0, .int .i64 0]) 3 24 Tryz.underlying23 hi hz0 hz1 hz2 rfl _ _ _ rfl HZ.out _ _ _ rfl HS.out (by simp only [maxLen]; omega) (fitsM (by omega) (by decide)) hsz ?_; intro v3 w3 o3 g3; have HO4 := hid (HO3.out.grown (k := [[z0, z1, z2]]) (by simp) o3 g3); rw [← HT.out] at HO4; clear o3 g3)
    go_roundw
    case rel => exact ⟨j + 1, by go_num, by omega, HO4.out⟩
    case measure => simp [numOf]; omega
  ·have e1 : decide ((j : Int) < n') = false := decide_eq_false (by omega)
   have HN2 : Hid (m.take j = m) := by rw [Hid, List.take_of_length_le (by rw [HL'.out]; omega)]
   clear hrd
   go_wp2
   go_ret
   have hO := HO1.out
   rw [HN2.out] at hO ⊢
   exact ⟨_, rfl, hO⟩
theorem rdm_one3 {w : World} {B T : Nat} {z0 z1 z2 : Int} (h : Bk w B T #[.int .i64 z0, .int .i64 z1, .int .i64 z2]) : RdM 3 w (some ⟨B, 0, none⟩) 1 1 [[z0, z1, z2]] :=
 ⟨rfl, Nat.le_refl _, by decide, (fun h => by cases h), fun _ => ⟨B, 0, rfl, h.lt, fun j y hy i z hz => by
  match j, hy with
  | 0, hy =>
   cases hy
   match i, hz with
   | 0, hz => cases hz; exact h.cell 0
   | 1, hz => cases hz; exact h.cell 1
   | 2, hz => cases hz; exact h.cell 2
   | i + 3, hz => simp at hz
  | j + 1, hy => simp at hy⟩, by simp⟩
theorem sput_any (a : Option Addr) (n c : Nat) (l : List (List Int)) (z0 z1 z2 : Int) (w : World) (h : RdM 3 w a n c l) (hn : n ≤ 900000) :
  Calls Tryz.prog 82 #[.slice a n c, .agg #[.int .i64 z0, .int .i64 z1, .int .i64 z2]] w fun e w' => ∃ v, e = .returned v ∧ OwM 3 46 w w' v (put1 l [z0, z1, z2]) := by
 have hb := bel_new w (.cells #[.int .i64 z0, .int .i64 z1, .int .i64 z2] 46)
 have hb2 := bel_new (w.alloc (.cells #[.int .i64 z0, .int .i64 z1, .int .i64 z2] 46)) (.cells #[.int .i64 z0, .int .i64 z1, .int .i64 z2] 46)
 have hb3 := Below.on hb hb2
 have hk := bk_new (w.alloc (.cells #[.int .i64 z0, .int .i64 z1, .int .i64 z2] 46)) #[.int .i64 z0, .int .i64 z1, .int .i64 z2] 46
 rw [size_new] at hk
 have CP := hid (placed_any a (some ⟨w.heap.size + 1, 0, none⟩) n c 1 1 l [[z0, z1, z2]] _ (h.on hb3) (rdm_one3 hk) (by omega))
 have HB := hid hb3
 clear h hb hb2 hb3 hk
 go_enter Tryz.func82, Tryz.ntmps82
 go_wp2_with fail
 refine CP.out.mono ?_
 rintro e w1 ⟨v, rfl, hO⟩
 have HO := hid (hO.base HB.out)
 clear hO CP HB
 go_wp2
 go_ret
 exact ⟨_, rfl, HO.out⟩
theorem rput_any (a : Option Addr) (n c : Nat) (l : List (List Int)) (z0 z1 z2 : Int) (w : World) (h : RdM 3 w a n c l) (hn : n ≤ 900000) :
  Calls Tryz.prog 120 #[.slice a n c, .agg #[.int .i64 z0, .int .i64 z1, .int .i64 z2]] w fun e w' => ∃ v, e = .returned v ∧ OwM 3 46 w w' v (put1 l [z0, z1, z2]) := by
 obtain ⟨i0, hi, hn0, hn1, hn2⟩ := infoMP infoM3
 have hb := bel_new w (.cells #[.int .i64 z0, .int .i64 z1, .int .i64 z2] 46)
 have HK := hid (bk_new w #[.int .i64 z0, .int .i64 z1, .int .i64 z2] 46)
 have HS := hid ((h.on hb).src (P := Tryz.prog) (t := 23) (e := 46) Tryz.underlying23)
 have HO := hid (World.ownsRow_nil (w.alloc (.cells #[.int .i64 z0, .int .i64 z1, .int .i64 z2] 46)) (w.alloc (.cells #[.int .i64 z0, .int .i64 z1, .int .i64 z2] 46)).heap.size 46 3)
 have HL := hid h.len
 have HZ := hid h.size
 have HB := hid hb
 have hs := h.small
 clear h hb
 go_enter Tryz.func120, Tryz.ntmps120
 go_wp2_with (at_builtin; refine wpList_append_own_src _ rfl (.const (.slice none 0 0)) (.tmp 7) 23 23 rfl (w.alloc (.cells #[.int .i64 z0, .int .i64 z1, .int .i64 z2] 46)).heap.size 46 i0 (.agg #[.int .i64 0, .int .i64 0, .int .i64 0]) 3 24 Tryz.underlying23 hi hn0 hn1 hn2 rfl _ _ _ rfl HO.out _ _ _ rfl HS.out (by simp only [maxLen]; omega) (fitsM (by omega) (by decide)) (Nat.le_refl _) ?_; intro v3 w3 o3 g3; have HO3 := hid o3; have HG3 := hid g3; clear o3 g3)
 have hO3 := HO3.out
 rw [Nat.zero_add, List.nil_append] at hO3
 have hB3 : Below (w.alloc (.cells #[.int .i64 z0, .int .i64 z1, .int .i64 z2] 46)).heap.size (w.alloc (.cells #[.int .i64 z0, .int .i64 z1, .int .i64 z2] 46)) w3 := (kp_of_grown HG3.out).below (Nat.le_refl _) (fun k hk => by cases hk)
 have HK3 := hid (HK.out.on hB3)
 have hOM : OwM 3 46 (w.alloc (.cells #[.int .i64 z0, .int .i64 z1, .int .i64 z2] 46)) w3 v3 l := ⟨by rw [HL.out]; exact hO3, hB3, HZ.out⟩
 have hOM2 := hOM.base HB.out
 obtain ⟨a3, c3, rfl, hR3, hA3⟩ := hOM2.rd
 have hs3 := hR3.small
 rw [HL.out] at hOM2 hR3 ⊢
 have HOM := hid hOM2
 have HR3 := hid hR3
 clear hO3 hB3 hOM hOM2 hR3 HO3 HG3 HS HO HK hA3
 go_loopw [6] (fun i wr => ∃ j : Nat, i = .int .i64 j ∧ j ≤ n ∧ (∀ i y, i < j → l[i]? = some y → hd y ≠ z0) ∧ ∃ q, wr = w3.drewN q) (fun i _ => n - (numOf i).toNat)
 case atStart => exact ⟨0, rfl, by omega, fun k r hk => absurd hk (by omega), 0, rfl⟩
 case round =>
  obtain ⟨j, rfl, hj, hN, q, rfl⟩ := hrel
  have HN := hid hN
  clear hN
  have t0 := HK3.out.cell 0
  have t1 := HK3.out.cell 1
  have t2 := HK3.out.cell 2
  by_cases hgo : j < n
  ·have e1 : decide ((j : Int) < n) = true := decide_eq_true (by omega)
   have e3 : (j : Int) < n := by omega
   obtain ⟨g, cg, hv, hg1, hg2, hg3, hg4⟩ := HOM.out.plain (by rw [HL.out]; omega)
   rw [HL.out] at hv
   simp only [Value.slice.injEq] at hv
   obtain ⟨rfl, -, rfl⟩ := hv
   obtain ⟨b', off', y0, y1, y2, hab, _, hr, s0, s1, s2⟩ := HR3.out.el3 hgo
   cases hab
   simp only [Nat.zero_add] at s0 s1 s2
   have HR := hid hr
   clear hr
   simp only [maxLen] at hg4
   cases hq : (y0 == z0)
   ·have HN2 : Hid (∀ i x, i < j + 1 → l[i]? = some x → hd x ≠ z0) := fun i x hi hx => by
     rcases Nat.lt_or_ge i j with h | h
     ·exact HN.out i x h hx
     ·obtain rfl : i = j := by omega
      rw [HR.out] at hx
      cases hx
      rw [hd3]; simpa using hq
    go_wp2
    go_quiet (fail)
    go_wp2
    go_roundw
    case rel => exact ⟨j + 1, by go_num, by omega, HN2.out, _, rfl⟩
    case measure => simp [numOf]; omega
   ·have HI : Hid (put1 l [z0, z1, z2] = l.set j [z0, z1, z2]) := by
     have hx : ixf z0 l = some j := by
      rw [ixf_drop HN.out, drop_at' HR.out, ixf, if_pos (by rw [hd3]; simpa using hq)]
      simp
     exact (ixf_some hx).2.2 _ rfl
    have fz := HOM.out.fz HL.out
    go_wp2
    go_quiet (fail)
    have HO4 : Hid (∀ q, OwM 3 46 w (sto3 (w3.drewN q) g (j * 3) z0 z1 z2) (.slice (some ⟨g, 0, none⟩) n c3) (put1 l [z0, z1, z2])) := fun q => by
     rw [HI.out]
     exact (HOM.out.on (below_drewN (Below.refl _ _) q)).sto3 HL.out hgo z0 z1 z2
    go_wp2
    go_ret
    exact ⟨_, rfl, HO4.out _⟩
  ·have e1 : decide ((j : Int) < n) = false := decide_eq_false (by omega)
   have HI : Hid (put1 l [z0, z1, z2] = l ++ [[z0, z1, z2]]) := by
    have hx : ixf z0 l = none := by
     rw [ixf_drop HN.out, List.drop_eq_nil_of_le (by rw [HL.out]; omega)]
     rfl
    exact put1_none (ixf_none hx).1
   have hO5 := (HOM.out.on (below_drewN (Below.refl _ _) q)).on (bel_new (w3.drewN q) (.cells #[.int .i64 z0, .int .i64 z1, .int .i64 z2] 46))
   have HS := hid (src3 (w3.drewN q) z0 z1 z2)
   have HO5 := hid hO5
   have hZ5 := hO5.own
   rw [HL.out] at hZ5
   have HZ5 := hid hZ5
   have hsz := hO5.bel.size
   clear hO5 hZ5
   go_wp2_with (at_builtin; refine wpList_append_own_src _ rfl (.tmp 28) (.tmp 30) 23 23 rfl w.heap.size 46 i0 (.agg #[.int .i64 0, .int .i64 0, .int .i64 0]) 3 24 Tryz.underlying23 hi hn0 hn1 hn2 rfl _ _ _ rfl HZ5.out _ _ _ rfl HS.out (by simp only [maxLen]; omega) (fitsM (by omega) (by decide)) hsz ?_; intro v3 w3 o3 g3; have HO6 := hid (HO5.out.grown (k := [[z0, z1, z2]]) (by simp) (by rw [HL.out]; exact o3) g3); rw [← HI.out] at HO6; clear o3 g3)
   go_ret
   exact ⟨_, rfl, HO6.out⟩
theorem rputs_any (a a' : Option Addr) (n c n' c' : Nat) (l m : List (List Int)) (w : World) (h : RdM 3 w a n c l) (h' : RdM 3 w a' n' c' m) (hn : n + n' ≤ 900000) :
  Calls Tryz.prog 125 #[.slice a n c, .slice a' n' c'] w fun e w' => ∃ v, e = .returned v ∧ OwM 3 46 w w' v (puts l m) := by
 obtain ⟨i0, hi, hn0, hn1, hn2⟩ := infoMP infoM3
 have HS := hid (h.src (P := Tryz.prog) (t := 23) (e := 46) Tryz.underlying23)
 have HO := hid (World.ownsRow_nil w w.heap.size 46 3)
 have HL := hid h.len
 have HL' := hid h'.len
 have HZ := hid h.size
 have hs' := h'.small
 have H' := hid h'
 clear h h'
 go_enter Tryz.func125, Tryz.ntmps125
 go_wp2_with (at_builtin; refine wpList_append_own_src _ rfl (.const (.slice none 0 0)) (.tmp 7) 23 23 rfl w.heap.size 46 i0 (.agg #[.int .i64 0, .int .i64 0, .int .i64 0]) 3 24 Tryz.underlying23 hi hn0 hn1 hn2 rfl _ _ _ rfl HO.out _ _ _ rfl HS.out (by simp only [maxLen]; omega) (fitsM (by omega) (by decide)) (Nat.le_refl _) ?_; intro v3 w3 o3 g3; have HO3 := hid o3; have HG3 := hid g3; clear o3 g3)
 have hO3 := HO3.out
 rw [Nat.zero_add, List.nil_append] at hO3
 have HOM : Hid (OwM 3 46 w w3 v3 l) := ⟨by rw [HL.out]; exact hO3, (kp_of_grown HG3.out).below (Nat.le_refl _) (fun k hk => by cases hk), HZ.out⟩
 clear hO3 HO3 HG3 HS HO
 go_loopw [5, 6] (fun v i wr => ∃ j : Nat, i = .int .i64 j ∧ j ≤ n' ∧ OwM 3 46 w wr v (puts l (m.take j))) (fun _ i _ => n' - (numOf i).toNat)
 case atStart => exact ⟨0, rfl, by omega, HOM.out⟩
 case round =>
  obtain ⟨j, rfl, hj, hO⟩ := hrel
  have HO1 := hid hO
  obtain ⟨a0, c0, rfl, hrd, -⟩ := hO.rd
  clear hO HOM
  by_cases hgo : j < n'
  ·have e1 : decide ((j : Int) < n') = true := decide_eq_true (by omega)
   have e3 : (j : Int) < n' := by omega
   obtain ⟨b, off, z0, z1, z2, rfl, hbl, hr, d0, d1, d2⟩ := (H'.out.on HO1.out.bel).el3 hgo
   have HT : Hid (puts l (m.take (j + 1)) = put1 (puts l (m.take j)) [z0, z1, z2]) := by rw [Hid, take_snoc hr, puts_snoc]
   have hN : (puts l (m.take j)).length ≤ n + n' := by
    have h1 := puts_length l (m.take j)
    have h2 := HL.out
    rw [List.length_take] at h1
    omega
   have CP := hid (rput_any _ _ _ _ z0 z1 z2 _ hrd (by omega))
   rw [← HT.out] at CP
   clear hr hrd
   go_wp2_with fail
   refine CP.out.mono ?_
   rintro e w2 ⟨v, rfl, hO2⟩
   have HO2 := hid (hO2.base HO1.out.bel)
   clear hO2 CP
   go_wp2
   go_roundw
   case rel => exact ⟨j + 1, by go_num, by omega, HO2.out⟩
   case measure => simp [numOf]; omega
  ·have e1 : decide ((j : Int) < n') = false := decide_eq_false (by omega)
   have HN2 : Hid (m.take j = m) := by rw [Hid, List.take_of_length_le (by rw [HL'.out]; omega)]
   clear hrd
   go_wp2
   go_ret
   have hO := HO1.out
   rw [HN2.out] at hO ⊢
   exact ⟨_, rfl, hO⟩
end
section
theorem ret_bool {a b : Bool} (h : a = b) : Ending.returned (.bool a) = Ending.returned (.bool b) := by rw [h]
structure Sl where
 a : Option Addr
 n : Nat
 c : Nat
 l : List (List Int)
structure Sx where
 at_ : Bool
 buf : Int
 dm : Sl
 fr : Sl
 inp : Bool
 all : Bool
 rg : Sl
 ord : Bool
 od : Sl
 pl : Sl
def Sx.q (x : Sx) : Sq := ⟨x.at_, x.buf, x.dm.l, x.fr.l, x.inp, x.all, x.rg.l, x.ord, x.od.l, x.pl.l⟩
structure Sx.Ok (w : World) (x : Sx) : Prop where
 dm : RdM 4 w x.dm.a x.dm.n x.dm.c x.dm.l
 fr : RdM 1 w x.fr.a x.fr.n x.fr.c x.fr.l
 rg : RdM 4 w x.rg.a x.rg.n x.rg.c x.rg.l
 od : RdM 1 w x.od.a x.od.n x.od.c x.od.l
 pl : RdM 3 w x.pl.a x.pl.n x.pl.c x.pl.l
theorem Sx.Ok.on {w u : World} {x : Sx} (h : x.Ok w) (hb : Below w.heap.size w u) : x.Ok u := ⟨h.dm.on hb, h.fr.on hb, h.rg.on hb, h.od.on hb, h.pl.on hb⟩
def sl0 : Sl := ⟨none, 0, 0, []⟩
def sx0 : Sx := ⟨false, 0, sl0, sl0, false, false, sl0, false, sl0, sl0⟩
theorem sx0_q : sx0.q = sq0 := rfl
theorem sx0_ok (w : World) : sx0.Ok w := ⟨RdM.nil _ _, RdM.nil _ _, RdM.nil _ _, RdM.nil _ _, RdM.nil _ _⟩
def Sx.Len (x : Sx) (k : Nat) : Prop := x.dm.n ≤ k ∧ x.fr.n ≤ k ∧ x.rg.n ≤ k ∧ x.od.n ≤ k ∧ x.pl.n ≤ k
structure Bs (u : World) (p : Nat) (x : Sx) : Prop where
 bk : Bk u p 72 #[.bool x.at_, .int .i64 x.buf, .slice x.dm.a x.dm.n x.dm.c, .slice x.fr.a x.fr.n x.fr.c, .bool x.inp, .bool x.all, .slice x.rg.a x.rg.n x.rg.c, .bool x.ord, .slice x.od.a x.od.n x.od.c, .slice x.pl.a x.pl.n x.pl.c]
theorem Bs.all {u : World} {p : Nat} {x : Sx} (h : Bs u p x) : u.cell? ⟨p, 0, none⟩ = some (.bool x.at_) ∧ u.cell? ⟨p, 1, none⟩ = some (.int .i64 x.buf) ∧ u.cell? ⟨p, 2, none⟩ = some (.slice x.dm.a x.dm.n x.dm.c) ∧ u.cell? ⟨p, 3, none⟩ = some (.slice x.fr.a x.fr.n x.fr.c) ∧ u.cell? ⟨p, 4, none⟩ = some (.bool x.inp) ∧ u.cell? ⟨p, 5, none⟩ = some (.bool x.all) ∧ u.cell? ⟨p, 6, none⟩ = some (.slice x.rg.a x.rg.n x.rg.c) ∧ u.cell? ⟨p, 7, none⟩ = some (.bool x.ord) ∧ u.cell? ⟨p, 8, none⟩ = some (.slice x.od.a x.od.n x.od.c) ∧ u.cell? ⟨p, 9, none⟩ = some (.slice x.pl.a x.pl.n x.pl.c) :=
 ⟨h.bk.cell 0, h.bk.cell 1, h.bk.cell 2, h.bk.cell 3, h.bk.cell 4, h.bk.cell 5, h.bk.cell 6, h.bk.cell 7, h.bk.cell 8, h.bk.cell 9⟩
theorem Bs.lt {u : World} {p : Nat} {x : Sx} (h : Bs u p x) : p < u.heap.size := h.bk.lt
theorem Bs.fz {u : World} {p : Nat} {x : Sx} (h : Bs u p x) (k : Nat) : u.frozen? ⟨p, k, none⟩ = false := h.bk.fz k
theorem Bs.on {u v : World} {p : Nat} {x : Sx} (h : Bs u p x) (hb : Below u.heap.size u v) : Bs v p x := ⟨h.bk.on hb⟩
theorem Bs.other {u : World} {p q : Nat} {x : Sx} (h : Bs u p x) (hn : p ≠ q) (k : Nat) (v : Value) : Bs (u.setCell ⟨q, k, none⟩ v) p x := ⟨h.bk.other hn k v⟩
theorem bs_new (w : World) (x : Sx) : Bs (w.alloc (.cells #[.bool x.at_, .int .i64 x.buf, .slice x.dm.a x.dm.n x.dm.c, .slice x.fr.a x.fr.n x.fr.c, .bool x.inp, .bool x.all, .slice x.rg.a x.rg.n x.rg.c, .bool x.ord, .slice x.od.a x.od.n x.od.c, .slice x.pl.a x.pl.n x.pl.c] 72)) w.heap.size x := ⟨bk_new w _ _⟩
theorem infoSt : (Tryz.prog.info? 72).map (·.size) = some 10 := by kernel_rfl
theorem ise (n : Nat) (l : List (List Int)) (h : l.length = n) : l.isEmpty = ((n : Int) == 0) := by
 cases l with
 | nil => simp at h; subst h; rfl
 | cons x l =>
  simp only [List.length_cons] at h
  rw [← h, Bool.eq_iff_iff]
  simp
  omega
theorem non_eq {x : Sx} {w : World} (ok : x.Ok w) : non x.q = (!x.at_ && (!x.inp && (!x.ord && (((x.dm.n : Int) == 0) && (((x.fr.n : Int) == 0) && ((x.pl.n : Int) == 0)))))) := by
 simp only [non, Sx.q, ise _ _ ok.dm.len, ise _ _ ok.fr.len, ise _ _ ok.pl.len]
theorem none_any (x : Sx) (w : World) (ok : x.Ok w) : Calls Tryz.prog 110 #[.agg #[.bool x.at_, .int .i64 x.buf, .slice x.dm.a x.dm.n x.dm.c, .slice x.fr.a x.fr.n x.fr.c, .bool x.inp, .bool x.all, .slice x.rg.a x.rg.n x.rg.c, .bool x.ord, .slice x.od.a x.od.n x.od.c, .slice x.pl.a x.pl.n x.pl.c]] w fun e w' => e = .returned (.bool (non x.q)) ∧ Below w.heap.size w w' := by
 have Ef := hid (non_eq ok)
 have s2 := ok.dm.small.1
 have s3 := ok.fr.small.1
 have s9 := ok.pl.small.1
 clear ok
 go_enter Tryz.func110, Tryz.ntmps110
 cases h0 : (x.at_)
 ·cases h4 : (x.inp)
  ·cases h7 : (x.ord)
   ·cases h2 : ((x.dm.n : Int) == 0)
    ·go_wp2
     go_ret
     exact ⟨ret_bool (by simp [Ef.out, h0, h4, h7, h2]), bel_new _ _⟩
    ·cases h3 : ((x.fr.n : Int) == 0)
     ·go_wp2
      go_ret
      exact ⟨ret_bool (by simp [Ef.out, h0, h4, h7, h2, h3]), bel_new _ _⟩
     ·cases h9 : ((x.pl.n : Int) == 0)
      ·go_wp2
       go_ret
       exact ⟨ret_bool (by simp [Ef.out, h0, h4, h7, h2, h3, h9]), bel_new _ _⟩
      ·go_wp2
       go_ret
       exact ⟨ret_bool (by simp [Ef.out, h0, h4, h7, h2, h3, h9]), bel_new _ _⟩
   ·go_wp2
    go_ret
    exact ⟨ret_bool (by simp [Ef.out, h0, h4, h7]), bel_new _ _⟩
  ·go_wp2
   go_ret
   exact ⟨ret_bool (by simp [Ef.out, h0, h4]), bel_new _ _⟩
 ·go_wp2
  go_ret
  exact ⟨ret_bool (by simp [Ef.out, h0]), bel_new _ _⟩
theorem rnone_any (x : Sx) (w : World) (ok : x.Ok w) : Calls Tryz.prog 126 #[.agg #[.bool x.at_, .int .i64 x.buf, .slice x.dm.a x.dm.n x.dm.c, .slice x.fr.a x.fr.n x.fr.c, .bool x.inp, .bool x.all, .slice x.rg.a x.rg.n x.rg.c, .bool x.ord, .slice x.od.a x.od.n x.od.c, .slice x.pl.a x.pl.n x.pl.c]] w fun e w' => e = .returned (.bool (non x.q)) ∧ Below w.heap.size w w' := by
 have Ef := hid (non_eq ok)
 have s2 := ok.dm.small.1
 have s3 := ok.fr.small.1
 have s9 := ok.pl.small.1
 clear ok
 go_enter Tryz.func126, Tryz.ntmps126
 cases h0 : (x.at_)
 ·cases h2 : ((x.dm.n : Int) == 0)
  ·go_wp2
   go_ret
   exact ⟨ret_bool (by simp [Ef.out, h0, h2]), bel_new _ _⟩
  ·cases h3 : ((x.fr.n : Int) == 0)
   ·go_wp2
    go_ret
    exact ⟨ret_bool (by simp [Ef.out, h0, h2, h3]), bel_new _ _⟩
   ·cases h4 : (x.inp)
    ·cases h7 : (x.ord)
     ·cases h9 : ((x.pl.n : Int) == 0)
      ·go_wp2
       go_ret
       exact ⟨ret_bool (by simp [Ef.out, h0, h2, h3, h4, h7, h9]), bel_new _ _⟩
      ·go_wp2
       go_ret
       exact ⟨ret_bool (by simp [Ef.out, h0, h2, h3, h4, h7, h9]), bel_new _ _⟩
     ·go_wp2
      go_ret
      exact ⟨ret_bool (by simp [Ef.out, h0, h2, h3, h4, h7]), bel_new _ _⟩
    ·go_wp2
     go_ret
     exact ⟨ret_bool (by simp [Ef.out, h0, h2, h3, h4]), bel_new _ _⟩
 ·go_wp2
  go_ret
  exact ⟨ret_bool (by simp [Ef.out, h0]), bel_new _ _⟩
end
end Go.Proofs.YtkjempffidndeaaGreatDoor
