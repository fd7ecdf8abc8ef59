/- The program's notes from iterators: each, still; slices.AppendSeq, slices.Collect. -/
import Derived.Test.YtegmolmjoiklpaaSeD
namespace Go.Proofs.Ytegmolmjoiklpaa
open Go Go.RowKit Go.Shelf
attribute [local go_sem] Oper.semAt_some

/-- A note as a loop is handed it. -/
def encN (y : List Int) : Array Value := #[.agg (y.map (Value.int .i64)).toArray]
/-- What each's iterator reads. -/
def KE (g : Nat) (a : Option Addr) (n c : Nat) (l : List (List Int)) (W : World) : Prop := W.cell? ⟨g, 0, none⟩ = some (.slice a n c) ∧ RdM 4 W a n c l
theorem KE.itr {g : Nat} {a : Option Addr} {n c : Nat} {l : List (List Int)} {W W' : World} {D : Nat} (h : KE g a n c l W) (hb : Itr D W W') : KE g a n c l W' := ⟨hb.cell h.1, h.2.itr hb⟩
theorem KE.on {g : Nat} {a : Option Addr} {n c : Nat} {l : List (List Int)} {W W' : World} {D : Nat} (h : KE g a n c l W) (hD : W.heap.size ≤ D) (hb : Below D W W') : KE g a n c l W' :=
  h.itr (itr_of_below (hb.mono hD) 0)

theorem smb_take_hit {l : List (List Int)} {j : Nat} {y : List Int} (hy : l[j]? = some y) (hs : sur y ≠ 0) : (smb l)[(smb (l.take j)).length]? = some y ∧ (smb (l.take (j + 1))).length = (smb (l.take j)).length + 1 := by
  have hl : j < l.length := (List.getElem?_eq_some_iff.1 hy).1
  have e : l[j] = y := (List.getElem?_eq_some_iff.1 hy).2
  have h1 : smb l = smb (l.take j) ++ (y :: smb (l.drop (j + 1))) := by
    rw [smb, smb, smb, ← List.take_append_drop j l, List.filter_append, List.take_append_drop, List.drop_eq_getElem_cons hl, e, List.filter_cons_of_pos (by simpa using hs)]
  refine ⟨by rw [h1, List.getElem?_append_right (Nat.le_refl _), Nat.sub_self]; rfl, ?_⟩
  rw [List.take_add_one, hy, smb, List.filter_append, List.length_append, Option.toList_some, List.filter_cons_of_pos (by simpa using hs)]
  rfl
theorem smb_take_miss {l : List (List Int)} {j : Nat} {y : List Int} (hy : l[j]? = some y) (hs : sur y = 0) : (smb (l.take (j + 1))).length = (smb (l.take j)).length := by
  rw [List.take_add_one, hy, smb, List.filter_append, List.length_append, Option.toList_some, List.filter_cons_of_neg (by simp [hs])]
  rfl
theorem stl_take_hit {l : List (List Int)} {j : Nat} {y : List Int} (hy : l[j]? = some y) (hs : knd y ≠ 3) : (stl l)[(stl (l.take j)).length]? = some y ∧ (stl (l.take (j + 1))).length = (stl (l.take j)).length + 1 := by
  have hl : j < l.length := (List.getElem?_eq_some_iff.1 hy).1
  have e : l[j] = y := (List.getElem?_eq_some_iff.1 hy).2
  have h1 : stl l = stl (l.take j) ++ (y :: stl (l.drop (j + 1))) := by
    rw [stl, stl, stl, ← List.take_append_drop j l, List.filter_append, List.take_append_drop, List.drop_eq_getElem_cons hl, e, List.filter_cons_of_pos (by simpa using hs)]
  refine ⟨by rw [h1, List.getElem?_append_right (Nat.le_refl _), Nat.sub_self]; rfl, ?_⟩
  rw [List.take_add_one, hy, stl, List.filter_append, List.length_append, Option.toList_some, List.filter_cons_of_pos (by simpa using hs)]
  rfl
theorem stl_take_miss {l : List (List Int)} {j : Nat} {y : List Int} (hy : l[j]? = some y) (hs : knd y = 3) : (stl (l.take (j + 1))).length = (stl (l.take j)).length := by
  rw [List.take_add_one, hy, stl, List.filter_append, List.length_append, Option.toList_some, List.filter_cons_of_neg (by simp [hs])]
  rfl

set_option maxRecDepth 100000 in
set_option maxHeartbeats 2000000 in
theorem each_hands (g : Nat) (a : Option Addr) (n c : Nat) (l : List (List Int)) : HandsC Try.prog 49 #[] #[.pointer (some ⟨g, 0, none⟩)] encN (smb l) (KE g a n c l) := fun mm r J Jx W hK hJ _ hY h0 => by
  obtain ⟨c0, r0⟩ := hK 0 [] W h0
  have hn := r0.small
  have HL := hid r0.len
  have HY := hid hY
  have HJ := hid hJ
  have HC : Hid (∀ k X W1, J k X W1 → RdM 4 W1 a n c l) := fun k X W1 h => (hK k X W1 h).2
  clear hK hY r0 hJ
  refine callsIn_of_wp Try.func49 rfl trivial ?_ rfl
  simp only [Try.ntmps49, List.size_toArray, List.length_cons, List.length_nil, Nat.reduceAdd, Nat.reduceSub, Array.replicate_succ, Array.replicate_zero, List.push_toArray, List.append_toArray, List.nil_append, List.cons_append]
  gi_wp2
  gi_loopw [7] (fun i wr => ∃ j : Nat, i = .int .i64 j ∧ j ≤ n ∧ ∃ X, J (smb (l.take j)).length X wr) (fun i _ => n - (numOf i).toNat)
  case atStart => exact ⟨0, rfl, by omega, [], h0⟩
  case round =>
    obtain ⟨j, rfl, hj, X, hJ⟩ := hrel
    by_cases hgo : j < n
    · have e1 : decide ((j : Int) < n) = true := decide_eq_true (by omega)
      have e2 : (j : Int) < n := by omega
      obtain ⟨b, off, z0, z1, z2, z3, rfl, lb, hr, d0, d1, d2, d3⟩ := (HC.out _ X wr hJ).el4 hgo
      have HR := hid hr
      have hJ2 := hid (HJ.out _ _ _ _ hJ (itr_of_below (bel_nw wr (.cells #[.int .i64 z0, .int .i64 z1, .int .i64 z2, .int .i64 z3] 56)) _))
      clear hr hJ
      by_cases hz : z1 = 0
      · subst hz
        have HE := hid (smb_take_miss HR.out rfl)
        gi_wp2
        refine ⟨fun _ _ => trivial, ?_⟩
        gi_wp2
        go_roundw
        case rel => exact ⟨j + 1, by go_num, by omega, X, by rw [HE.out]; exact hJ2.out⟩
        case measure => simp [numOf]; omega
      · obtain ⟨hx, hx2⟩ := smb_take_hit HR.out (show sur [z0, z1, z2, z3] ≠ 0 from hz)
        have HE := hid hx2
        obtain ⟨fn, tmps, assign, body, hy, hR⟩ := HY.out (mm - 1) _ X _ _ hJ2.out hx
        simp only [encN, List.map_cons, List.map_nil] at hy
        have HR2 := hid hR
        clear hR hx hx2
        gi_wp2
        refine ⟨(fun q => nomatch q), HR2.out.mono ?_⟩
        rintro e W3 ⟨_, (⟨rfl, X', _, hJ3⟩ | ⟨rfl, hJx3⟩)⟩
        · gi_wp2
          go_roundw
          case rel => exact ⟨j + 1, by go_num, by omega, X', by rw [HE.out]; exact hJ3⟩
          case measure => simp [numOf]; omega
        · gi_wp2
          refine bodyPost_ret (results_none rfl _ _ _) rfl ?_
          exact ⟨⟨_, rfl⟩, .inr hJx3⟩
    · have e1 : decide ((j : Int) < n) = false := decide_eq_false (by omega)
      have e2 : ¬ (j : Int) < n := by omega
      gi_wp2
      go_end0
      exact ⟨⟨_, rfl⟩, .inl ⟨X, by rw [List.take_of_length_le (by rw [HL.out]; omega)] at hJ; exact hJ⟩⟩

theorem each_any (a : Option Addr) (n c : Nat) (w : World) :
    Calls Try.prog 45 #[.slice a n c] w fun e w' => e = .returned (.func (.func 49) #[] #[.pointer (some ⟨w.heap.size, 0, none⟩)]) ∧ w' = w.alloc (.cells #[.slice a n c] 43) := by
  go_enter Try.func45, Try.ntmps45
  go_wp2
  go_ret
  exact ⟨rfl, rfl⟩

theorem still_any (gf : Nat) (cap : Array Value) (w : World) :
    Calls Try.prog 32 #[.func (.func gf) #[] cap] w fun e w' => e = .returned (.func (.func 44) #[] #[.pointer (some ⟨w.heap.size, 0, none⟩)]) ∧ w' = w.alloc (.cells #[.func (.func gf) #[] cap] 78) := by
  go_enter Try.func32, Try.ntmps32
  go_wp2
  go_ret
  exact ⟨rfl, rfl⟩

/-- What still's iterator reads. -/
def KS (g gf : Nat) (cap : Array Value) (K : World → Prop) (W : World) : Prop := W.cell? ⟨g, 0, none⟩ = some (.func (.func gf) #[] cap) ∧ K W
set_option maxRecDepth 100000 in
set_option maxHeartbeats 2000000 in
theorem still_hands (g gf : Nat) (cap : Array Value) (xs : List (List Int)) (K : World → Prop) (hsz : ∀ y ∈ xs, y.length = 4) (eg : ∀ args w, (callFunc gf args).run Try.prog w = .ok (.enter gf args) w) (hin : HandsC Try.prog gf #[] cap encN xs K) :
    HandsC Try.prog 44 #[] #[.pointer (some ⟨g, 0, none⟩)] encN (stl xs) (KS g gf cap K) := fun mm r J Jx W hK hJ hJx hY h0 => by
  have c0 := (hK 0 [] W h0).1
  have lg := World.block_lt_of_cell? W _ c0
  have c1 := cell_ol c0 (.cells #[.func (.yield r) #[] #[]] 90)
  have HY := hid hY
  have HJ := hid hJ
  have HJx := hid hJx
  have HK := hid hK
  have HI := hid hin
  have HZ := hid hsz
  have HEG := hid eg
  clear hK hY hJ hJx hin hsz eg
  refine callsIn_of_wp_marks Try.func44 rfl trivial ?_ rfl
  simp only [Try.ntmps44, List.size_toArray, List.length_cons, List.length_nil, Nat.reduceAdd, Nat.reduceSub, Array.replicate_succ, Array.replicate_zero, List.push_toArray, List.append_toArray, List.nil_append, List.cons_append]
  gi_wp2
  obtain ⟨W1, hW1⟩ : ∃ W1, W1 = W.alloc (.cells #[.func (.yield r) #[] #[]] 90) := ⟨_, rfl⟩
  have hs1 : W1.heap.size = W.heap.size + 1 := by rw [hW1]; simp
  have hb1 : W1.heap[W.heap.size]? = some (.cells #[.func (.yield r) #[] #[]] 90 (0, 0)) := by rw [hW1]; exact hp_nw W _ rfl
  have hj1 : J 0 [] W1 := by rw [hW1]; exact HJ.out _ _ _ _ h0 (itr_of_below (bel_nw W _) _)
  rw [← hW1]
  clear hW1 c1
  have HS1 := hid hs1
  clear hs1
  refine wp_range_cap (gf := gf) (bd := #[]) (cap := cap) rfl HEG.out HI.out (fun _ => rfl)
    (fun k X U => J (stl (xs.take k)).length X U ∧ W.heap.size ∉ X ∧ U.heap[W.heap.size]? = some (.cells #[.func (.yield r) #[] #[]] 90 (0, 0)))
    (fun co U => co = .ret ∧ Jx U)
    (fun k X U U' h hb => ⟨HJ.out _ _ _ _ h.1 (hb.mono (by rw [HS1.out]; omega)), h.2.1, hb.obj h.2.2⟩)
    (fun co U U' h hb => ⟨h.1, HJx.out _ _ h.2 (hb.mono (by rw [HS1.out]; omega))⟩)
    (fun k X U h => (HK.out _ _ _ h.1).2)
    ⟨hj1, by simp, hb1⟩ ?round ?done ?stop
  case round =>
    rintro m l k X x U ⟨hj, hx0, hb⟩ hx hlt _
    match x, HZ.out x (List.mem_of_getElem? hx) with
    | [z0, z1, z2, z3], _ =>
    have HX := hid hx
    have HB := hid hb
    have HJ1 := hid hj
    have hlt2 : W.heap.size + 1 + 1 < U.heap.size := by rw [HS1.out] at hlt; omega
    clear hx hb hj hlt
    simp only [encN, List.map_cons, List.map_nil]
    gi_wp2
    refine ⟨rnd_below (bel_nw U _) _ _, fun U2 hkp hit => ?_⟩
    have hb2 := hkp.var (hp_nw U (.cells #[.int .i64 z0, .int .i64 z1, .int .i64 z2, .int .i64 z3] 56) rfl) (by rw [HS1.out]; simp; omega)
    have hy2 := hit.obj (hp_ol HB.out (.cells #[.int .i64 z0, .int .i64 z1, .int .i64 z2, .int .i64 z3] 56))
    have hj2 := hid (HJ.out _ _ _ _ HJ1.out ((itr_of_below (bel_nw U (.cells #[.int .i64 z0, .int .i64 z1, .int .i64 z2, .int .i64 z3] 56)) _).trans (hit.mono (by rw [HS1.out]; omega))))
    have d0 := (Lib.cell_of_heap hb2 0).trans rfl
    have d1 := (Lib.cell_of_heap hb2 1).trans rfl
    have d2 := (Lib.cell_of_heap hb2 2).trans rfl
    have d3 := (Lib.cell_of_heap hb2 3).trans rfl
    have dy := hcell1 hy2
    have HY2 := hid hy2
    have hl2 := hkp.size
    rw [World.size_alloc] at hl2
    clear hkp hit hb2 hy2
    by_cases hz : z0 = 3
    · subst hz
      have HE := hid (stl_take_miss HX.out rfl)
      gi_wp2
      refine ⟨fun _ _ => trivial, ?_⟩
      gi_wp2
      exact ⟨Rnd.refl _ _ _, X, (fun q hq => .inl hq), by rw [HE.out]; exact hj2.out, hx0, HY2.out⟩
    · obtain ⟨hx, hx2⟩ := stl_take_hit HX.out (show knd [z0, z1, z2, z3] ≠ 3 from hz)
      have HE := hid hx2
      obtain ⟨fn, tmps, assign, body, hy, hR⟩ := HY.out (m - 1) _ X _ _ hj2.out hx
      simp only [encN, List.map_cons, List.map_nil] at hy
      have HR2 := hid hR
      clear hR hx hx2
      gi_wp2
      refine ⟨(fun q => nomatch q), HR2.out.mono ?_⟩
      rintro e U3 ⟨hrd, (⟨rfl, X', hX', hJ3⟩ | ⟨rfl, hJx3⟩)⟩
      · gi_wp2
        exact ⟨hrd.mono (by rw [HS1.out]; omega), X', (fun q hq => (hX' q hq).elim .inl (fun h => .inr (by omega))), by rw [HE.out]; exact hJ3, (fun hm => (hX' _ hm).elim hx0 (fun h => by omega)), hrd.at_ (Nat.le_refl _) hx0 HY2.out⟩
      · gi_wp2
        exact ⟨hrd.mono (by rw [HS1.out]; omega), rfl, hJx3⟩
  case done =>
    rintro D X U hD ⟨hj, hx0, hb⟩ _ hKd
    rw [List.take_length] at hj
    have hj2 := HJ.out _ _ _ _ hj (itr_put U D _ (.deferred none) (by rw [HS1.out] at hD; omega) hKd rfl)
    gi_wp2
    refine ⟨by simp, .inl ⟨_, _, rfl, run_takeDeferred hKd, ?_⟩⟩
    exact ⟨_, results_none rfl _ _ _, ⟨_, rfl⟩, .inl ⟨X, hj2⟩⟩
  case stop =>
    rintro D co U hD ⟨rfl, hjx⟩ hKd
    have hj2 := HJx.out _ _ hjx (itr_put U D _ (.deferred none) (by rw [HS1.out] at hD; omega) hKd rfl)
    gi_wp2
    refine ⟨by simp, .inl ⟨_, _, rfl, run_takeDeferred hKd, ?_⟩⟩
    exact ⟨_, results_none rfl _ _ _, ⟨_, rfl⟩, .inr hj2⟩
end Go.Proofs.Ytegmolmjoiklpaa
