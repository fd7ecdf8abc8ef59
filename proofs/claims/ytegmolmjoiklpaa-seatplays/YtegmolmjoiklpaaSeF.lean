/- slices.AppendSeq, slices.Collect of notes, whatever the iterator. -/
import Derived.Test.YtegmolmjoiklpaaSeE
import Derived.Maps.OwnIn
import Derived.Maps.AppendAt
namespace Go.Proofs.Ytegmolmjoiklpaa
open Go Go.RowKit Go.Shelf
attribute [local go_sem] Oper.semAt_some

theorem infoSP {P : Program} {e : TypeId} {z : Value} {n m : Nat} (h : (P.info? e).map (fun i => (i.zero, i.size, i.bytes)) = some (some z, n, m)) : ∃ i, P.info? e = some i ∧ i.zero = some z ∧ i.size = n ∧ i.bytes = m := by
  cases hi : P.info? e with
  | none => rw [hi] at h; cases h
  | some i =>
    rw [hi] at h
    simp only [Option.map_some, Option.some.injEq, Prod.mk.injEq] at h
    exact ⟨i, rfl, h.1, h.2.1, h.2.2⟩
theorem own_shape {w : World} {base e size n : Nat} {v : Value} {xs : List Value} (h : w.ownsRow base e size v n xs) : ∃ a c, v = .slice a n c := by
  rcases h.2 with ⟨rfl, rfl⟩ | ⟨g, cap, cur, rfl, _⟩
  · exact ⟨_, _, rfl⟩
  · exact ⟨_, _, rfl⟩
/-- A row of the loop's own: its block is none that holds another kind of cells. -/
theorem own_not {w : World} {base e size n : Nat} {v : Value} {xs : List Value} (h : w.ownsRow base e size v n xs) {k T : Nat} {cs : Array Value} {f : Nat × Nat} (hk : w.heap[k]? = some (.cells cs T f)) (hT : T ≠ e) : v.ownBlock ≠ some k := fun e1 => by
  rcases h.2 with ⟨rfl, _⟩ | ⟨g, cap, cur, rfl, _, hg, _⟩
  · cases e1
  · cases e1
    rw [hk] at hg
    cases hg
    exact hT rfl
theorem grown_at {w w' : World} {row : Option Nat} (hg : w.grownBy w' row) {k : Nat} {o : Obj} (h : w.heap[k]? = some o) (hr : row ≠ some k) : w'.heap[k]? = some o := (hg.block k (Array.getElem?_eq_some_iff.1 h).1 (fun e => hr e.symm)).trans h
theorem rnd_grown {w w' : World} {row : Option Nat} (hg : w.grownBy w' row) (D : Nat) : Rnd D row.toList w w' := ⟨hg.size, fun k _ hk hX => hg.block k hk (fun e => hX (by rw [← e]; simp))⟩
theorem cells4 (U : World) (z0 z1 z2 z3 : Int) (T : Nat) : ∀ (j : Nat) (u : Value), ([.int .i64 z0, .int .i64 z1, .int .i64 z2, .int .i64 z3] : List Value)[j]? = some u → (U.alloc (.cells #[.int .i64 z0, .int .i64 z1, .int .i64 z2, .int .i64 z3] T)).cell? ((⟨U.heap.size, 0, none⟩ : Addr).add j) = some u := fun j u hu => by
  rw [Go.WideShapes.add_plain, Nat.zero_add, Lib.cell_of_heap (hp_nw U (.cells #[.int .i64 z0, .int .i64 z1, .int .i64 z2, .int .i64 z3] T) rfl)]
  simpa using hu
theorem take_mcs {xs : List (List Int)} {k : Nat} {y : List Int} (h : xs[k]? = some y) : mcs (xs.take (k + 1)) = mcs (xs.take k) ++ y.map (Value.int .i64) := by
  rw [List.take_add_one, h, mcs_append]
  simp [mcs]

theorem infoNote : (Try.prog.info? 56).map (fun i => (i.zero, i.size, i.bytes)) = some (some (.agg #[.int .i64 0, .int .i64 0, .int .i64 0, .int .i64 0]), 4, 32) := by kernel_rfl
set_option maxRecDepth 100000 in
set_option maxHeartbeats 2000000 in
theorem appseq_any (gf : Nat) (cap : Array Value) (xs : List (List Int)) (K : World → Prop) (hsz : ∀ y ∈ xs, y.length = 4) (hxl : xs.length ≤ 1000) (eg : ∀ args w, (callFunc gf args).run Try.prog w = .ok (.enter gf args) w) (hin : HandsC Try.prog gf #[] cap encN xs K) (w : World) (hK : ∀ W, Below w.heap.size w W → K W) :
    Calls Try.prog 43 #[.slice none 0 0, .func (.func gf) #[] cap] w fun e w' => ∃ v, e = .returned v ∧ OwM 4 56 w w' v xs := by
  refine (callsIn_wide (n := 6)).1 ?_
  obtain ⟨i0, hi, hz0, hz1, hz2⟩ := infoSP infoNote
  have HI := hid hin
  have HZ := hid hsz
  have HEG := hid eg
  have HK := hid hK
  clear hin hsz eg hK
  refine callsIn_of_wp_marks Try.func43 rfl trivial ?_ rfl
  simp only [Try.ntmps43, List.size_toArray, List.length_cons, List.length_nil, Nat.reduceAdd, Nat.reduceSub, Array.replicate_succ, Array.replicate_zero, List.push_toArray, List.append_toArray, List.nil_append, List.cons_append]
  gi_wp2
  obtain ⟨W1, hW1⟩ : ∃ W1, W1 = w.alloc (.cells #[.slice none 0 0] 43) := ⟨_, rfl⟩
  have hs1 : W1.heap.size = w.heap.size + 1 := by rw [hW1]; simp
  have hb1 : W1.heap[w.heap.size]? = some (.cells #[.slice none 0 0] 43 (0, 0)) := by rw [hW1]; exact hp_nw w _ rfl
  have hl1 : Below w.heap.size w W1 := by rw [hW1]; exact bel_nw w _
  rw [← hW1]
  clear hW1
  have HS1 := hid hs1
  clear hs1
  refine wp_range_cap (gf := gf) (bd := #[]) (cap := cap) rfl HEG.out HI.out (fun _ => rfl)
    (fun k X U => ∃ v, U.heap[w.heap.size]? = some (.cells #[v] 43 (0, 0)) ∧ U.ownsRow w.heap.size 56 4 v k (mcs (xs.take k)) ∧ X = v.ownBlock.toList ∧ RowKit.Below w.heap.size w U)
    (fun _ _ => False)
    (fun k X U U' h hb => by
      obtain ⟨v, h1, h2, h3, h4⟩ := h
      exact ⟨v, hb.obj h1, hb.row h2, h3, h4.trans ((hb.below (by rw [HS1.out]; exact (Array.getElem?_eq_some_iff.1 h1).1)).mono (by rw [HS1.out]; omega))⟩)
    (fun co U U' h hb => h.elim)
    (fun k X U h => by obtain ⟨_, _, _, _, h4⟩ := h; exact HK.out _ h4)
    ⟨.slice none 0 0, hb1, World.ownsRow_nil _ _ _ _, rfl, hl1⟩ ?round ?done ?stop
  case round =>
    rintro m l k X x U ⟨v, hb, hrow, rfl, hbl⟩ hx hlt _
    match x, HZ.out x (List.mem_of_getElem? hx) with
    | [z0, z1, z2, z3], _ =>
    have hkx : k < xs.length := (List.getElem?_eq_some_iff.1 hx).1
    have HX := hid hx
    have hlt2 : w.heap.size + 1 + 1 < U.heap.size := by rw [HS1.out] at hlt; omega
    have hbU := bel_nw U (.cells #[.int .i64 z0, .int .i64 z1, .int .i64 z2, .int .i64 z3] 56)
    clear hx hlt
    simp only [encN, List.map_cons, List.map_nil]
    gi_wp2
    refine ⟨rnd_below (bel_nw U _) _ _, fun U2 hkp hit => ?_⟩
    have hb2 := hkp.var (hp_nw U (.cells #[.int .i64 z0, .int .i64 z1, .int .i64 z2, .int .i64 z3] 56) rfl) (by rw [HS1.out]; simp; omega)
    have hv2 := hit.obj (hp_ol hb (.cells #[.int .i64 z0, .int .i64 z1, .int .i64 z2, .int .i64 z3] 56))
    have hr2 := hit.row (ownsRow_below hrow hbU)
    have hbl2 : RowKit.Below w.heap.size w U2 := (Below.on hbl hbU).trans ((hit.below (by rw [HS1.out]; simp; omega)).mono (by rw [HS1.out]; omega))
    have hl2 := hkp.size
    rw [World.size_alloc] at hl2
    have HXn : Hid (∀ q ∈ v.ownBlock.toList, q < U2.heap.size) := fun q hq => (hr2.lt q (by simpa using hq)).2
    obtain ⟨va, vc, rfl⟩ := own_shape hr2
    have d0 := (Lib.cell_of_heap hb2 0).trans rfl
    have d1 := (Lib.cell_of_heap hb2 1).trans rfl
    have d2 := (Lib.cell_of_heap hb2 2).trans rfl
    have d3 := (Lib.cell_of_heap hb2 3).trans rfl
    have dv := hcell1 hv2
    have HR2 := hid hr2
    have HV2 := hid hv2
    have HB2 := hid hbl2
    clear hkp hit hb hrow hbl hbU hb2 hv2 hr2 hbl2
    gi_wp2_with (gi_at_builtin; refine wpListIn_append_own_at _ rfl _ _ 43 rfl w.heap.size 56 i0 (.agg #[.int .i64 0, .int .i64 0, .int .i64 0, .int .i64 0]) 4 32 Try.underlying43 hi hz0 hz1 hz2 rfl (by decide) _ _ _ rfl (ownsRow_below HR2.out (bel_nw U2 _)) ⟨U2.heap.size, 0, none⟩ 1 1 [.int .i64 z0, .int .i64 z1, .int .i64 z2, .int .i64 z3] rfl rfl (cells4 U2 _ _ _ _ _) (by simp [Value.oneCell']) (by simp only [maxLen]; omega) (by omega) (by have := HB2.out.size; simp; omega) ?_; intro v' w1 ho hg _ hp; obtain ⟨va', vc', rfl⟩ := own_shape ho; have hbx := grown_at hg (hp_ol HV2.out _) (own_not HR2.out HV2.out (by decide)); have dv1 := hcell1 hbx; have fv1 := Lib.frozen_of_heap hbx 0)
    have hn' := own_not ho hbx (by decide)
    have hs2 : (U2.alloc (.cells #[.int .i64 z0, .int .i64 z1, .int .i64 z2, .int .i64 z3] 56)).heap.size = U2.heap.size + 1 := by simp
    refine ⟨((rnd_below (bel_nw U2 _) _ _).then (rnd_grown hg _)).set (.inl (by rw [HS1.out]; omega)) _ _, (Value.slice va' (k + 1) vc').ownBlock.toList, fun q hq => ?_, _, heap_setCell_same _ _ 0 _ _ _ hbx, ?_, rfl, ?_⟩
    · rcases hp with hp | hp
      · rw [hp] at hq
        exact .inl hq
      · rw [hp, hs2] at hq
        simp only [Option.toList_some, List.mem_singleton] at hq
        exact .inr (by omega)
    · have := ownsRow_set ho ⟨w.heap.size, 0, none⟩ hn' (.slice va' (k + 1) vc')
      rw [take_mcs HX.out]
      exact this
    · exact ((Below.on HB2.out (bel_nw U2 _)).grown hg (by have := HB2.out.size; simp; omega) (fun q hq => (HR2.out.lt q hq).1)).setCell (p := ⟨w.heap.size, 0, none⟩) (Nat.le_refl _) _
  case done =>
    rintro D X U hD ⟨v, hb, hrow, rfl, hbl⟩ hDX hKd
    obtain ⟨va, vc, rfl⟩ := own_shape hrow
    have dv := hcell1 hb
    gi_wp2
    refine ⟨by simp, .inl ⟨_, _, rfl, run_takeDeferred hKd, ?_⟩⟩
    rw [List.take_length] at hrow
    have hbp : RowKit.Below w.heap.size w (U.putObj D (.deferred none)) := hbl.trans (below_putObj _ _ _ (by rw [HS1.out] at hD; omega))
    exact ⟨.slice va xs.length vc, (by simp [results, Try.f43, go_sem]), .slice va xs.length vc, rfl, (itr_put (D := w.heap.size) U D _ (.deferred none) (by rw [HS1.out] at hD; omega) hKd rfl).row hrow, hbp, HZ.out⟩
  case stop => exact fun _ _ _ _ h => h.elim

set_option maxRecDepth 100000 in
theorem collect_any (gf : Nat) (cap : Array Value) (xs : List (List Int)) (K : World → Prop) (hsz : ∀ y ∈ xs, y.length = 4) (hxl : xs.length ≤ 1000) (eg : ∀ args w, (callFunc gf args).run Try.prog w = .ok (.enter gf args) w) (hin : HandsC Try.prog gf #[] cap encN xs K) (w : World) (hK : ∀ W, Below w.heap.size w W → K W) :
    Calls Try.prog 31 #[.func (.func gf) #[] cap] w fun e w' => ∃ v, e = .returned v ∧ OwM 4 56 w w' v xs := by
  have HC := hid (appseq_any gf cap xs K hsz hxl eg hin w hK)
  clear hsz hxl eg hin hK
  go_enter Try.func31, Try.ntmps31
  go_wp2_with fail
  refine HC.out.mono ?_
  rintro e w1 ⟨v, rfl, ho⟩
  have HO := hid ho
  obtain ⟨va, vc, rfl⟩ := own_shape ho.own
  clear ho
  go_wp2
  go_ret
  exact ⟨_, rfl, HO.out⟩
end Go.Proofs.Ytegmolmjoiklpaa
