/- Lemmas that the proof leans on. -/
import Derived.Test.YtpbgbpcdohdecaaGreatDoorB07
namespace Go.Proofs.YtpbgbpcdohdecaaGreatDoor
open Go Go.RowKit
set_option maxRecDepth 100000
set_option maxHeartbeats 2000000
section
def rqRows : List (List (List UInt8 × Int × Bool)) := [[([110], 3, false), ([110], 2, false)], [([117, 115, 117, 110], 0, false)], [([110], 8, false), ([110], 9, false)], [([110, 117, 105], 6, false)], [([110, 105, 105, 105, 105, 117], 7, false), ([], 0, true), ([105], 0, false)], [([], 0, true)], [([], 0, true), ([111, 105, 105], 0, false), ([105, 105, 105, 105], 0, false), ([110], 3, false), ([111], 0, false), ([], 0, false)], [([], 0, true), ([105, 105, 105, 105], 0, false), ([105, 105, 105, 105], 0, false)], [([], 0, true), ([110, 111, 111], 11, false)], [([], 0, true), ([105, 105], 0, false), ([111], 0, false), ([111], 0, false), ([], 0, false), ([], 0, false)], [([110], 13, false), ([110], 14, false)], [([], 0, true)], [([], 0, true)], [([], 0, true), ([110, 111], 16, false), ([117], 0, false)], [([], 0, true), ([110], 17, false), ([117], 0, false)], [([], 0, true), ([115], 0, false)]]
def rqT : List (List (List UInt8 × Int × Bool)) := [[], [([110], 3, false), ([110], 2, false)], [([117, 115, 117, 110], 0, false)], [], [([110], 8, false), ([110], 9, false)], [([110, 117, 105], 6, false)], [([110, 105, 105, 105, 105, 117], 7, false), ([], 0, true), ([105], 0, false)], [([], 0, true)], [([], 0, true), ([111, 105, 105], 0, false), ([105, 105, 105, 105], 0, false), ([110], 3, false), ([111], 0, false), ([], 0, false)], [([], 0, true), ([105, 105, 105, 105], 0, false), ([105, 105, 105, 105], 0, false)], [([], 0, true), ([110, 111, 111], 11, false)], [([], 0, true), ([105, 105], 0, false), ([111], 0, false), ([111], 0, false), ([], 0, false), ([], 0, false)], [([110], 13, false), ([110], 14, false)], [([], 0, true)], [([], 0, true)], [([], 0, true), ([110, 111], 16, false), ([117], 0, false)], [([], 0, true), ([110], 17, false), ([117], 0, false)], [([], 0, true), ([115], 0, false)]]
def rqL (N : Nat) : List Hd := [(none, 0, 0), (some ⟨N, 0, none⟩, 2, 2), (some ⟨N + 1, 0, none⟩, 1, 1), (none, 0, 0), (some ⟨N + 2, 0, none⟩, 2, 2), (some ⟨N + 3, 0, none⟩, 1, 1), (some ⟨N + 4, 0, none⟩, 3, 3), (some ⟨N + 5, 0, none⟩, 1, 1), (some ⟨N + 6, 0, none⟩, 6, 6), (some ⟨N + 7, 0, none⟩, 3, 3), (some ⟨N + 8, 0, none⟩, 2, 2), (some ⟨N + 9, 0, none⟩, 6, 6), (some ⟨N + 10, 0, none⟩, 2, 2), (some ⟨N + 11, 0, none⟩, 1, 1), (some ⟨N + 12, 0, none⟩, 1, 1), (some ⟨N + 13, 0, none⟩, 3, 3), (some ⟨N + 14, 0, none⟩, 3, 3), (some ⟨N + 15, 0, none⟩, 2, 2)]
theorem rq_hdr (N k : Nat) (hk : k < 18) : ∃ p n c, (rqL N)[k]? = some (p, n, c) ∧ n = (rqT.getD k []).length ∧ (0 < n → ∃ i, p = some ⟨N + i, 0, none⟩ ∧ rqRows[i]? = some (rqT.getD k [])) := by
 match k, hk with
 | 0, _ => exact ⟨_, _, _, rfl, rfl, fun h => absurd h (by decide)⟩
 | 1, _ => exact ⟨_, _, _, rfl, rfl, fun _ => ⟨0, rfl, rfl⟩⟩
 | 2, _ => exact ⟨_, _, _, rfl, rfl, fun _ => ⟨1, rfl, rfl⟩⟩
 | 3, _ => exact ⟨_, _, _, rfl, rfl, fun h => absurd h (by decide)⟩
 | 4, _ => exact ⟨_, _, _, rfl, rfl, fun _ => ⟨2, rfl, rfl⟩⟩
 | 5, _ => exact ⟨_, _, _, rfl, rfl, fun _ => ⟨3, rfl, rfl⟩⟩
 | 6, _ => exact ⟨_, _, _, rfl, rfl, fun _ => ⟨4, rfl, rfl⟩⟩
 | 7, _ => exact ⟨_, _, _, rfl, rfl, fun _ => ⟨5, rfl, rfl⟩⟩
 | 8, _ => exact ⟨_, _, _, rfl, rfl, fun _ => ⟨6, rfl, rfl⟩⟩
 | 9, _ => exact ⟨_, _, _, rfl, rfl, fun _ => ⟨7, rfl, rfl⟩⟩
 | 10, _ => exact ⟨_, _, _, rfl, rfl, fun _ => ⟨8, rfl, rfl⟩⟩
 | 11, _ => exact ⟨_, _, _, rfl, rfl, fun _ => ⟨9, rfl, rfl⟩⟩
 | 12, _ => exact ⟨_, _, _, rfl, rfl, fun _ => ⟨10, rfl, rfl⟩⟩
 | 13, _ => exact ⟨_, _, _, rfl, rfl, fun _ => ⟨11, rfl, rfl⟩⟩
 | 14, _ => exact ⟨_, _, _, rfl, rfl, fun _ => ⟨12, rfl, rfl⟩⟩
 | 15, _ => exact ⟨_, _, _, rfl, rfl, fun _ => ⟨13, rfl, rfl⟩⟩
 | 16, _ => exact ⟨_, _, _, rfl, rfl, fun _ => ⟨14, rfl, rfl⟩⟩
 | 17, _ => exact ⟨_, _, _, rfl, rfl, fun _ => ⟨15, rfl, rfl⟩⟩
 | k + 18, h => omega
def evRows : List (List (List UInt8)) := [[[111, 117, 115], [117]], [[117, 115, 117]], [[117]], [[117]], [[]], [[117]], [[117, 111, 102, 102], [117, 111], [117, 102, 102], [117, 117, 117, 117]], [[117, 111], [117, 111], [117, 117, 117, 117]], [[117]], [[117]], [[105, 105], []]]
def evT : List (List (List UInt8)) := [[], [[111, 117, 115], [117]], [[117, 115, 117]], [[117]], [], [[117]], [], [[]], [], [], [], [], [[117]], [[117, 111, 102, 102], [117, 111], [117, 102, 102], [117, 117, 117, 117]], [[117, 111], [117, 111], [117, 117, 117, 117]], [[117]], [[117]], [[105, 105], []]]
def evL (N : Nat) : List Hd := [(none, 0, 0), (some ⟨N, 0, none⟩, 2, 2), (some ⟨N + 1, 0, none⟩, 1, 1), (some ⟨N + 2, 0, none⟩, 1, 1), (none, 0, 0), (some ⟨N + 3, 0, none⟩, 1, 1), (none, 0, 0), (some ⟨N + 4, 0, none⟩, 1, 1), (none, 0, 0), (none, 0, 0), (none, 0, 0), (none, 0, 0), (some ⟨N + 5, 0, none⟩, 1, 1), (some ⟨N + 6, 0, none⟩, 4, 4), (some ⟨N + 7, 0, none⟩, 3, 3), (some ⟨N + 8, 0, none⟩, 1, 1), (some ⟨N + 9, 0, none⟩, 1, 1), (some ⟨N + 10, 0, none⟩, 2, 2)]
theorem ev_hdr (N k : Nat) (hk : k < 18) : ∃ p n c, (evL N)[k]? = some (p, n, c) ∧ n = (evT.getD k []).length ∧ (0 < n → ∃ i, p = some ⟨N + i, 0, none⟩ ∧ evRows[i]? = some (evT.getD k [])) := by
 match k, hk with
 | 0, _ => exact ⟨_, _, _, rfl, rfl, fun h => absurd h (by decide)⟩
 | 1, _ => exact ⟨_, _, _, rfl, rfl, fun _ => ⟨0, rfl, rfl⟩⟩
 | 2, _ => exact ⟨_, _, _, rfl, rfl, fun _ => ⟨1, rfl, rfl⟩⟩
 | 3, _ => exact ⟨_, _, _, rfl, rfl, fun _ => ⟨2, rfl, rfl⟩⟩
 | 4, _ => exact ⟨_, _, _, rfl, rfl, fun h => absurd h (by decide)⟩
 | 5, _ => exact ⟨_, _, _, rfl, rfl, fun _ => ⟨3, rfl, rfl⟩⟩
 | 6, _ => exact ⟨_, _, _, rfl, rfl, fun h => absurd h (by decide)⟩
 | 7, _ => exact ⟨_, _, _, rfl, rfl, fun _ => ⟨4, rfl, rfl⟩⟩
 | 8, _ => exact ⟨_, _, _, rfl, rfl, fun h => absurd h (by decide)⟩
 | 9, _ => exact ⟨_, _, _, rfl, rfl, fun h => absurd h (by decide)⟩
 | 10, _ => exact ⟨_, _, _, rfl, rfl, fun h => absurd h (by decide)⟩
 | 11, _ => exact ⟨_, _, _, rfl, rfl, fun h => absurd h (by decide)⟩
 | 12, _ => exact ⟨_, _, _, rfl, rfl, fun _ => ⟨5, rfl, rfl⟩⟩
 | 13, _ => exact ⟨_, _, _, rfl, rfl, fun _ => ⟨6, rfl, rfl⟩⟩
 | 14, _ => exact ⟨_, _, _, rfl, rfl, fun _ => ⟨7, rfl, rfl⟩⟩
 | 15, _ => exact ⟨_, _, _, rfl, rfl, fun _ => ⟨8, rfl, rfl⟩⟩
 | 16, _ => exact ⟨_, _, _, rfl, rfl, fun _ => ⟨9, rfl, rfl⟩⟩
 | 17, _ => exact ⟨_, _, _, rfl, rfl, fun _ => ⟨10, rfl, rfl⟩⟩
 | k + 18, h => omega
def flat : List (List UInt8 × Int × Bool) → List Value
 | [] => []
 | (s, m, b) :: l => .string ⟨s.toArray⟩ :: .int .i64 m :: .bool b :: flat l
theorem flat_get : ∀ (l : List (List UInt8 × Int × Bool)) (j : Nat) (s : List UInt8) (m : Int) (b : Bool), l[j]? = some (s, m, b) →
  (flat l)[j * 3]? = some (.string ⟨s.toArray⟩) ∧ (flat l)[j * 3 + 1]? = some (.int .i64 m) ∧ (flat l)[j * 3 + 2]? = some (.bool b)
 | [], j, s, m, b, h => by simp at h
 | (s', m', b') :: l, 0, s, m, b, h => by
  simp only [List.getElem?_cons_zero, Option.some.injEq, Prod.mk.injEq] at h
  obtain ⟨rfl, rfl, rfl⟩ := h
  exact ⟨rfl, rfl, rfl⟩
 | (s', m', b') :: l, j + 1, s, m, b, h => by
  have ih := flat_get l j s m b (by simpa using h)
  rw [show (j + 1) * 3 = j * 3 + 1 + 1 + 1 by omega]
  exact ih
def rqObjs : List Obj := rqRows.map fun r => .cells (flat r).toArray 176
def strs (l : List (List UInt8)) : List Value := l.map fun s => .string ⟨s.toArray⟩
def evObjs : List Obj := evRows.map fun r => .cells (strs r).toArray 9
theorem allocs_append : ∀ (l m : List Obj) (w : World), allocs (l ++ m) w = allocs m (allocs l w)
 | [], _, _ => rfl
 | _ :: l, m, w => allocs_append l m (w.alloc _)
theorem wpList_chunk {P : Program} {ops : Array Oper} {Q : Exit → Act → World → Prop} {a : Act} {l : List Oper} (objs : List Obj) (N : Nat) (w0 : World) (hN : w0.heap.size = N) (i k : Nat) (a' : Act) (hi : i < objs.length)
  (h : runsB P (l.take k) a (N + i) = some (a', (objs.drop i).take 1)) (hk : wpList P ops Q (l.drop k) a' (allocs (objs.take (i + 1)) w0)) : wpList P ops Q l a (allocs (objs.take i) w0) := by
 have e : objs.take (i + 1) = objs.take i ++ (objs.drop i).take 1 := List.take_add
 rw [e, allocs_append] at hk
 have := wpList_runsB (ops := ops) (Q := Q) (rest := l.drop k) (l.take k) a (allocs (objs.take i) w0) (N + i) a' _ (by rw [allocs_size, List.length_take]; omega) h hk
 rw [List.take_append_drop] at this
 exact this
theorem wp_region_start {P : Program} {Q : Exit → Act → World → Prop} {a : Act} {w : World} {id : Nat} {l : List Oper} (objs : List Obj) (h : wpList P l.toArray Q l a (allocs (objs.take 0) w)) : (Code.region id l.toArray false).wp P Q a w :=
 wp_region_lit h
def rqAt (f o : Int) : Option (List UInt8 × Int × Bool) := if 0 ≤ f ∧ 0 ≤ o then (rqT.getD f.toNat [])[o.toNat]? else none
def evAt (f o : Int) : Option (List UInt8) := if 0 ≤ f ∧ 0 ≤ o then (evT.getD f.toNat [])[o.toNat]? else none
def rqS (f o : Int) : List UInt8 := ((rqAt f o).map (·.1)).getD []
def rqM (f o : Int) : Int := ((rqAt f o).map (·.2.1)).getD 0
def rqB (f o : Int) : Bool := ((rqAt f o).map (·.2.2)).getD false
def evS (f o : Int) : List UInt8 := (evAt f o).getD []
theorem rqT_len : rqT.length = 18 := rfl
theorem evT_len : evT.length = 18 := rfl
theorem getD_far {α : Type} (l : List (List α)) (n : Nat) (h : l.length ≤ n) : l.getD n [] = [] := by
 rw [List.getD, List.getElem?_eq_none h]
 rfl
theorem cell_of {w : World} {b : Nat} {cs : List Value} {t : TypeId} (h : w.heap[b]? = some (.cells cs.toArray t)) {j : Nat} {v : Value} (hv : cs[j]? = some v) : w.cell? ⟨b, j, none⟩ = some v := by
 rw [World.cell?, h]
 show cs.toArray[j]? = some v
 rw [List.getElem?_toArray]
 exact hv
theorem atReq_tab (N : Nat) (W : World) (hW : ∀ i r, rqRows[i]? = some r → W.heap[N + i]? = some (.cells (flat r).toArray 176)) (f o : Int) :
  Calls Tryz.prog 114 #[.agg ((rqL N).map hd_SigA).toArray, .int .i64 f, .int .i64 o] W
   fun e w' => e = .returned (.tuple #[.agg #[.string ⟨(rqS f o).toArray⟩, .int .i64 (rqM f o), .bool (rqB f o)], .bool (rqAt f o).isSome]) ∧ Below W.heap.size W w' := by
 have none_ : rqAt f o = none → ∀ v, v = Ending.returned (.tuple #[.agg #[.string ⟨#[]⟩, .int .i64 0, .bool false], .bool false]) → v = .returned (.tuple #[.agg #[.string ⟨(rqS f o).toArray⟩, .int .i64 (rqM f o), .bool (rqB f o)], .bool (rqAt f o).isSome]) := by
  intro h v hv
  rw [hv, rqS, rqM, rqB, h]
  rfl
 by_cases hf : 0 ≤ f ∧ f < 18
 ·obtain ⟨k, rfl⟩ : ∃ k : Nat, f = k := ⟨f.toNat, by omega⟩
  have hk : k < 18 := by omega
  obtain ⟨p, n, c, hy, hn, hp⟩ := rq_hdr N k hk
  by_cases ho : 0 ≤ o ∧ o < n
  ·obtain ⟨j, rfl⟩ : ∃ j : Nat, o = j := ⟨o.toNat, by omega⟩
   obtain ⟨i, rfl, hr⟩ := hp (by omega)
   obtain ⟨⟨s, m, b⟩, he⟩ : ∃ x, (rqT.getD k [])[j]? = some x := ⟨_, List.getElem?_eq_getElem (by omega)⟩
   obtain ⟨g0, g1, g2⟩ := flat_get _ _ _ _ _ he
   have hb := hW i _ hr
   refine (atReq_some (rqL N) rfl k hk (N + i) n c hy j W (by omega) ⟨s.toArray⟩ m b (cell_of hb g0) (cell_of hb g1) (cell_of hb g2)).mono ?_
   rintro e w' ⟨rfl, h⟩
   have hq : rqAt k j = some (s, m, b) := by
    rw [rqAt, if_pos (by omega)]
    exact he
   refine ⟨?_, h⟩
   rw [rqS, rqM, rqB, hq]
   rfl
  ·refine (atReq_none (rqL N) rfl k hk _ hy o W (by simp only; omega)).mono ?_
   rintro e w' ⟨he, h⟩
   refine ⟨none_ ?_ _ he, h⟩
   rw [rqAt]
   split
   ·exact List.getElem?_eq_none (by simp only [Int.toNat_natCast]; omega)
   ·rfl
 ·refine (atReq_far (rqL N) rfl f o W (by omega)).mono ?_
  rintro e w' ⟨he, h⟩
  refine ⟨none_ ?_ _ he, h⟩
  rw [rqAt]
  split
  ·rw [getD_far rqT _ (by rw [rqT_len]; omega)]
   rfl
  ·rfl
theorem atStr_tab (N : Nat) (W : World) (hW : ∀ i r, evRows[i]? = some r → W.heap[N + i]? = some (.cells (strs r).toArray 9)) (f o : Int) :
  Calls Tryz.prog 231 #[.agg ((evL N).map hd_SigA).toArray, .int .i64 f, .int .i64 o] W
   fun e w' => e = .returned (.tuple #[.string ⟨(evS f o).toArray⟩, .bool (evAt f o).isSome]) ∧ Below W.heap.size W w' := by
 have none_ : evAt f o = none → ∀ v, v = Ending.returned (.tuple #[.string ⟨#[]⟩, .bool false]) → v = .returned (.tuple #[.string ⟨(evS f o).toArray⟩, .bool (evAt f o).isSome]) := by
  intro h v hv
  rw [hv, evS, h]
  rfl
 by_cases hf : 0 ≤ f ∧ f < 18
 ·obtain ⟨k, rfl⟩ : ∃ k : Nat, f = k := ⟨f.toNat, by omega⟩
  have hk : k < 18 := by omega
  obtain ⟨p, n, c, hy, hn, hp⟩ := ev_hdr N k hk
  by_cases ho : 0 ≤ o ∧ o < n
  ·obtain ⟨j, rfl⟩ : ∃ j : Nat, o = j := ⟨o.toNat, by omega⟩
   obtain ⟨i, rfl, hr⟩ := hp (by omega)
   obtain ⟨s, he⟩ : ∃ x, (evT.getD k [])[j]? = some x := ⟨_, List.getElem?_eq_getElem (by omega)⟩
   have g0 : (strs (evT.getD k []))[j]? = some (.string ⟨s.toArray⟩) := by rw [strs, List.getElem?_map, he]; rfl
   have hb := hW i _ hr
   refine (atStr_some (evL N) rfl k hk (N + i) n c hy j W (by omega) ⟨s.toArray⟩ (cell_of hb g0)).mono ?_
   rintro e w' ⟨rfl, h⟩
   have hq : evAt k j = some s := by
    rw [evAt, if_pos (by omega)]
    exact he
   refine ⟨?_, h⟩
   rw [evS, hq]
   rfl
  ·refine (atStr_none (evL N) rfl k hk _ hy o W (by simp only; omega)).mono ?_
   rintro e w' ⟨he, h⟩
   refine ⟨none_ ?_ _ he, h⟩
   rw [evAt]
   split
   ·exact List.getElem?_eq_none (by simp only [Int.toNat_natCast]; omega)
   ·rfl
 ·refine (atStr_far (evL N) rfl f o W (by omega)).mono ?_
  rintro e w' ⟨he, h⟩
  refine ⟨none_ ?_ _ he, h⟩
  rw [evAt]
  split
  ·rw [getD_far evT _ (by rw [evT_len]; omega)]
   rfl
  ·rfl
theorem rq_blocks (w : World) (i : Nat) (r : List (List UInt8 × Int × Bool)) (h : rqRows[i]? = some r) : (allocs rqObjs w).heap[w.heap.size + i]? = some (.cells (flat r).toArray 176) :=
 allocs_block rqObjs w i _ (by rw [rqObjs, List.getElem?_map, h]; rfl)
theorem ev_blocks (w : World) (i : Nat) (r : List (List UInt8)) (h : evRows[i]? = some r) : (allocs evObjs w).heap[w.heap.size + i]? = some (.cells (strs r).toArray 9) :=
 allocs_block evObjs w i _ (by rw [evObjs, List.getElem?_map, h]; rfl)
theorem rq_all : rqObjs.take 16 = rqObjs := by rw [List.take_of_length_le]; decide
theorem ev_all : evObjs.take 11 = evObjs := by rw [List.take_of_length_le]; decide
theorem requestAt_any (f o : Int) (w : World) :
  Calls Tryz.prog 71 #[.int .i64 f, .int .i64 o] w fun e w' => e = .returned (.tuple #[.agg #[.string ⟨(rqS f o).toArray⟩, .int .i64 (rqM f o), .bool (rqB f o)], .bool (rqAt f o).isSome]) ∧ Below w.heap.size w w' := by
 obtain ⟨N, hN⟩ : ∃ N, w.heap.size + 1 = N := ⟨_, rfl⟩
 have hN0 : (w.alloc (.cells #[.string ⟨#[]⟩, .int .i64 0, .bool false] 176)).heap.size = N := by rw [size_alloc]; exact hN
 obtain ⟨W, hW⟩ : ∃ W, allocs rqObjs (w.alloc (.cells #[.string ⟨#[]⟩, .int .i64 0, .bool false] 176)) = W := ⟨_, rfl⟩
 have bW : Below w.heap.size w W := by
  rw [← hW]
  exact (below1 w _).trans (allocs_below _ _ _ (by rw [size_alloc]; omega))
 have zW : W.heap[w.heap.size]? = some (.cells #[.string ⟨#[]⟩, .int .i64 0, .bool false] 176) := by
  rw [← hW, (allocs_below rqObjs _ _ (Nat.le_refl _)).block _ (by rw [size_alloc]; omega)]
  exact Array.getElem?_push_size
 have HC : Hid (∀ b : Obj, Calls Tryz.prog 114 #[.agg #[.slice none 0 0, .slice (some ⟨N, 0, none⟩) 2 2, .slice (some ⟨N + 1, 0, none⟩) 1 1, .slice none 0 0, .slice (some ⟨N + 2, 0, none⟩) 2 2, .slice (some ⟨N + 3, 0, none⟩) 1 1, .slice (some ⟨N + 4, 0, none⟩) 3 3, .slice (some ⟨N + 5, 0, none⟩) 1 1, .slice (some ⟨N + 6, 0, none⟩) 6 6, .slice (some ⟨N + 7, 0, none⟩) 3 3, .slice (some ⟨N + 8, 0, none⟩) 2 2, .slice (some ⟨N + 9, 0, none⟩) 6 6, .slice (some ⟨N + 10, 0, none⟩) 2 2, .slice (some ⟨N + 11, 0, none⟩) 1 1, .slice (some ⟨N + 12, 0, none⟩) 1 1, .slice (some ⟨N + 13, 0, none⟩) 3 3, .slice (some ⟨N + 14, 0, none⟩) 3 3, .slice (some ⟨N + 15, 0, none⟩) 2 2], .int .i64 f, .int .i64 o] (W.alloc b) fun e w' => e = .returned (.tuple #[.agg #[.string ⟨(rqS f o).toArray⟩, .int .i64 (rqM f o), .bool (rqB f o)], .bool (rqAt f o).isSome]) ∧ (w'.heap[w.heap.size]? = some (.cells #[.string ⟨#[]⟩, .int .i64 0, .bool false] 176) ∧ Below w.heap.size w w')) := by
  intro b
  have b1 := below1 W b
  refine (atReq_tab N (W.alloc b) (fun i r h => ?_) f o).mono ?_
  ·have h2 := rq_blocks (w.alloc (.cells #[.string ⟨#[]⟩, .int .i64 0, .bool false] 176)) i r h
   rw [hW, hN0] at h2
   rw [b1.block _ (Array.getElem?_eq_some_iff.1 h2).1]
   exact h2
  ·rintro e w' ⟨he, hb⟩
   have hb' : Below W.heap.size W w' := b1.trans (hb.mono b1.size)
   refine ⟨he, ?_, bW.trans (hb'.mono bW.size)⟩
   rw [hb'.block _ (Array.getElem?_eq_some_iff.1 zW).1]
   exact zW
 have HW : Hid (allocs (rqObjs.take 16) (w.alloc (.cells #[.string ⟨#[]⟩, .int .i64 0, .bool false] 176)) = W) := by
  show allocs (rqObjs.take 16) _ = W
  rw [rq_all]
  exact hW
 have HN : Hid ((w.alloc (.cells #[.string ⟨#[]⟩, .int .i64 0, .bool false] 176)).heap.size = N) := hN0
 clear hN hN0 bW zW hW
 generalize rqS f o = qs at *
 generalize rqM f o = qm at *
 generalize rqB f o = qb at *
 generalize (rqAt f o).isSome = qi at *
 go_enter Tryz.func71, Tryz.ntmps71
 go_upto_region 1 with fail
 refine wp_region_start rqObjs ?_
 refine wpList_chunk rqObjs N _ HN.out 0 3 ⟨#[.int .i64 f, .int .i64 o, undef, undef, .pointer (some ⟨w.heap.size, 0, none⟩), .bool false, undef, .agg #[.string ⟨#[110]⟩, .int .i64 3, .bool false], .agg #[.string ⟨#[110]⟩, .int .i64 2, .bool false], .slice (some ⟨N, 0, none⟩) 2 2, undef, undef, undef, undef, undef, undef, undef, undef, undef, undef, undef, undef, undef, undef, undef, undef, undef, undef, undef, undef, undef, undef, undef, undef, undef, undef, undef, undef, undef, undef, undef, undef, undef, undef, undef, undef, undef, undef, undef, undef, undef, undef, undef, undef, undef, undef, undef, undef, undef, undef, undef, undef, undef, undef, undef, undef, undef, undef, undef], []⟩ (by decide) (by kernel_rfl) ?_
 simp only [List.drop_succ_cons, List.drop_zero]
 refine wpList_chunk rqObjs N _ HN.out 1 2 ⟨#[.int .i64 f, .int .i64 o, undef, undef, .pointer (some ⟨w.heap.size, 0, none⟩), .bool false, undef, .agg #[.string ⟨#[110]⟩, .int .i64 3, .bool false], .agg #[.string ⟨#[110]⟩, .int .i64 2, .bool false], .slice (some ⟨N, 0, none⟩) 2 2, .agg #[.string ⟨#[117, 115, 117, 110]⟩, .int .i64 0, .bool false], .slice (some ⟨N + 1, 0, none⟩) 1 1, undef, undef, undef, undef, undef, undef, undef, undef, undef, undef, undef, undef, undef, undef, undef, undef, undef, undef, undef, undef, undef, undef, undef, undef, undef, undef, undef, undef, undef, undef, undef, undef, undef, undef, undef, undef, undef, undef, undef, undef, undef, undef, undef, undef, undef, undef, undef, undef, undef, undef, undef, undef, undef, undef, undef, undef, undef], []⟩ (by decide) (by kernel_rfl) ?_
 simp only [List.drop_succ_cons, List.drop_zero]
 refine wpList_chunk rqObjs N _ HN.out 2 3 ⟨#[.int .i64 f, .int .i64 o, undef, undef, .pointer (some ⟨w.heap.size, 0, none⟩), .bool false, undef, .agg #[.string ⟨#[110]⟩, .int .i64 3, .bool false], .agg #[.string ⟨#[110]⟩, .int .i64 2, .bool false], .slice (some ⟨N, 0, none⟩) 2 2, .agg #[.string ⟨#[117, 115, 117, 110]⟩, .int .i64 0, .bool false], .slice (some ⟨N + 1, 0, none⟩) 1 1, .agg #[.string ⟨#[110]⟩, .int .i64 8, .bool false], .agg #[.string ⟨#[110]⟩, .int .i64 9, .bool false], .slice (some ⟨N + 2, 0, none⟩) 2 2, undef, undef, undef, undef, undef, undef, undef, undef, undef, undef, undef, undef, undef, undef, undef, undef, undef, undef, undef, undef, undef, undef, undef, undef, undef, undef, undef, undef, undef, undef, undef, undef, undef, undef, undef, undef, undef, undef, undef, undef, undef, undef, undef, undef, undef, undef, undef, undef, undef, undef, undef, undef, undef, undef], []⟩ (by decide) (by kernel_rfl) ?_
 simp only [List.drop_succ_cons, List.drop_zero]
 refine wpList_chunk rqObjs N _ HN.out 3 2 ⟨#[.int .i64 f, .int .i64 o, undef, undef, .pointer (some ⟨w.heap.size, 0, none⟩), .bool false, undef, .agg #[.string ⟨#[110]⟩, .int .i64 3, .bool false], .agg #[.string ⟨#[110]⟩, .int .i64 2, .bool false], .slice (some ⟨N, 0, none⟩) 2 2, .agg #[.string ⟨#[117, 115, 117, 110]⟩, .int .i64 0, .bool false], .slice (some ⟨N + 1, 0, none⟩) 1 1, .agg #[.string ⟨#[110]⟩, .int .i64 8, .bool false], .agg #[.string ⟨#[110]⟩, .int .i64 9, .bool false], .slice (some ⟨N + 2, 0, none⟩) 2 2, .agg #[.string ⟨#[110, 117, 105]⟩, .int .i64 6, .bool false], .slice (some ⟨N + 3, 0, none⟩) 1 1, undef, undef, undef, undef, undef, undef, undef, undef, undef, undef, undef, undef, undef, undef, undef, undef, undef, undef, undef, undef, undef, undef, undef, undef, undef, undef, undef, undef, undef, undef, undef, undef, undef, undef, undef, undef, undef, undef, undef, undef, undef, undef, undef, undef, undef, undef, undef, undef, undef, undef, undef, undef], []⟩ (by decide) (by kernel_rfl) ?_
 simp only [List.drop_succ_cons, List.drop_zero]
 refine wpList_chunk rqObjs N _ HN.out 4 4 ⟨#[.int .i64 f, .int .i64 o, undef, undef, .pointer (some ⟨w.heap.size, 0, none⟩), .bool false, undef, .agg #[.string ⟨#[110]⟩, .int .i64 3, .bool false], .agg #[.string ⟨#[110]⟩, .int .i64 2, .bool false], .slice (some ⟨N, 0, none⟩) 2 2, .agg #[.string ⟨#[117, 115, 117, 110]⟩, .int .i64 0, .bool false], .slice (some ⟨N + 1, 0, none⟩) 1 1, .agg #[.string ⟨#[110]⟩, .int .i64 8, .bool false], .agg #[.string ⟨#[110]⟩, .int .i64 9, .bool false], .slice (some ⟨N + 2, 0, none⟩) 2 2, .agg #[.string ⟨#[110, 117, 105]⟩, .int .i64 6, .bool false], .slice (some ⟨N + 3, 0, none⟩) 1 1, .agg #[.string ⟨#[110, 105, 105, 105, 105, 117]⟩, .int .i64 7, .bool false], .agg #[.string ⟨#[]⟩, .int .i64 0, .bool true], .agg #[.string ⟨#[105]⟩, .int .i64 0, .bool false], .slice (some ⟨N + 4, 0, none⟩) 3 3, undef, undef, undef, undef, undef, undef, undef, undef, undef, undef, undef, undef, undef, undef, undef, undef, undef, undef, undef, undef, undef, undef, undef, undef, undef, undef, undef, undef, undef, undef, undef, undef, undef, undef, undef, undef, undef, undef, undef, undef, undef, undef, undef, undef, undef, undef, undef, undef], []⟩ (by decide) (by kernel_rfl) ?_
 simp only [List.drop_succ_cons, List.drop_zero]
 refine wpList_chunk rqObjs N _ HN.out 5 2 ⟨#[.int .i64 f, .int .i64 o, undef, undef, .pointer (some ⟨w.heap.size, 0, none⟩), .bool false, undef, .agg #[.string ⟨#[110]⟩, .int .i64 3, .bool false], .agg #[.string ⟨#[110]⟩, .int .i64 2, .bool false], .slice (some ⟨N, 0, none⟩) 2 2, .agg #[.string ⟨#[117, 115, 117, 110]⟩, .int .i64 0, .bool false], .slice (some ⟨N + 1, 0, none⟩) 1 1, .agg #[.string ⟨#[110]⟩, .int .i64 8, .bool false], .agg #[.string ⟨#[110]⟩, .int .i64 9, .bool false], .slice (some ⟨N + 2, 0, none⟩) 2 2, .agg #[.string ⟨#[110, 117, 105]⟩, .int .i64 6, .bool false], .slice (some ⟨N + 3, 0, none⟩) 1 1, .agg #[.string ⟨#[110, 105, 105, 105, 105, 117]⟩, .int .i64 7, .bool false], .agg #[.string ⟨#[]⟩, .int .i64 0, .bool true], .agg #[.string ⟨#[105]⟩, .int .i64 0, .bool false], .slice (some ⟨N + 4, 0, none⟩) 3 3, .agg #[.string ⟨#[]⟩, .int .i64 0, .bool true], .slice (some ⟨N + 5, 0, none⟩) 1 1, undef, undef, undef, undef, undef, undef, undef, undef, undef, undef, undef, undef, undef, undef, undef, undef, undef, undef, undef, undef, undef, undef, undef, undef, undef, undef, undef, undef, undef, undef, undef, undef, undef, undef, undef, undef, undef, undef, undef, undef, undef, undef, undef, undef, undef, undef], []⟩ (by decide) (by kernel_rfl) ?_
 simp only [List.drop_succ_cons, List.drop_zero]
 refine wpList_chunk rqObjs N _ HN.out 6 7 ⟨#[.int .i64 f, .int .i64 o, undef, undef, .pointer (some ⟨w.heap.size, 0, none⟩), .bool false, undef, .agg #[.string ⟨#[110]⟩, .int .i64 3, .bool false], .agg #[.string ⟨#[110]⟩, .int .i64 2, .bool false], .slice (some ⟨N, 0, none⟩) 2 2, .agg #[.string ⟨#[117, 115, 117, 110]⟩, .int .i64 0, .bool false], .slice (some ⟨N + 1, 0, none⟩) 1 1, .agg #[.string ⟨#[110]⟩, .int .i64 8, .bool false], .agg #[.string ⟨#[110]⟩, .int .i64 9, .bool false], .slice (some ⟨N + 2, 0, none⟩) 2 2, .agg #[.string ⟨#[110, 117, 105]⟩, .int .i64 6, .bool false], .slice (some ⟨N + 3, 0, none⟩) 1 1, .agg #[.string ⟨#[110, 105, 105, 105, 105, 117]⟩, .int .i64 7, .bool false], .agg #[.string ⟨#[]⟩, .int .i64 0, .bool true], .agg #[.string ⟨#[105]⟩, .int .i64 0, .bool false], .slice (some ⟨N + 4, 0, none⟩) 3 3, .agg #[.string ⟨#[]⟩, .int .i64 0, .bool true], .slice (some ⟨N + 5, 0, none⟩) 1 1, .agg #[.string ⟨#[]⟩, .int .i64 0, .bool true], .agg #[.string ⟨#[111, 105, 105]⟩, .int .i64 0, .bool false], .agg #[.string ⟨#[105, 105, 105, 105]⟩, .int .i64 0, .bool false], .agg #[.string ⟨#[110]⟩, .int .i64 3, .bool false], .agg #[.string ⟨#[111]⟩, .int .i64 0, .bool false], .agg #[.string ⟨#[]⟩, .int .i64 0, .bool false], .slice (some ⟨N + 6, 0, none⟩) 6 6, undef, undef, undef, undef, undef, undef, undef, undef, undef, undef, undef, undef, undef, undef, undef, undef, undef, undef, undef, undef, undef, undef, undef, undef, undef, undef, undef, undef, undef, undef, undef, undef, undef, undef, undef, undef, undef, undef, undef], []⟩ (by decide) (by kernel_rfl) ?_
 simp only [List.drop_succ_cons, List.drop_zero]
 refine wpList_chunk rqObjs N _ HN.out 7 4 ⟨#[.int .i64 f, .int .i64 o, undef, undef, .pointer (some ⟨w.heap.size, 0, none⟩), .bool false, undef, .agg #[.string ⟨#[110]⟩, .int .i64 3, .bool false], .agg #[.string ⟨#[110]⟩, .int .i64 2, .bool false], .slice (some ⟨N, 0, none⟩) 2 2, .agg #[.string ⟨#[117, 115, 117, 110]⟩, .int .i64 0, .bool false], .slice (some ⟨N + 1, 0, none⟩) 1 1, .agg #[.string ⟨#[110]⟩, .int .i64 8, .bool false], .agg #[.string ⟨#[110]⟩, .int .i64 9, .bool false], .slice (some ⟨N + 2, 0, none⟩) 2 2, .agg #[.string ⟨#[110, 117, 105]⟩, .int .i64 6, .bool false], .slice (some ⟨N + 3, 0, none⟩) 1 1, .agg #[.string ⟨#[110, 105, 105, 105, 105, 117]⟩, .int .i64 7, .bool false], .agg #[.string ⟨#[]⟩, .int .i64 0, .bool true], .agg #[.string ⟨#[105]⟩, .int .i64 0, .bool false], .slice (some ⟨N + 4, 0, none⟩) 3 3, .agg #[.string ⟨#[]⟩, .int .i64 0, .bool true], .slice (some ⟨N + 5, 0, none⟩) 1 1, .agg #[.string ⟨#[]⟩, .int .i64 0, .bool true], .agg #[.string ⟨#[111, 105, 105]⟩, .int .i64 0, .bool false], .agg #[.string ⟨#[105, 105, 105, 105]⟩, .int .i64 0, .bool false], .agg #[.string ⟨#[110]⟩, .int .i64 3, .bool false], .agg #[.string ⟨#[111]⟩, .int .i64 0, .bool false], .agg #[.string ⟨#[]⟩, .int .i64 0, .bool false], .slice (some ⟨N + 6, 0, none⟩) 6 6, .agg #[.string ⟨#[]⟩, .int .i64 0, .bool true], .agg #[.string ⟨#[105, 105, 105, 105]⟩, .int .i64 0, .bool false], .agg #[.string ⟨#[105, 105, 105, 105]⟩, .int .i64 0, .bool false], .slice (some ⟨N + 7, 0, none⟩) 3 3, undef, undef, undef, undef, undef, undef, undef, undef, undef, undef, undef, undef, undef, undef, undef, undef, undef, undef, undef, undef, undef, undef, undef, undef, undef, undef, undef, undef, undef, undef, undef, undef, undef, undef, undef], []⟩ (by decide) (by kernel_rfl) ?_
 simp only [List.drop_succ_cons, List.drop_zero]
 refine wpList_chunk rqObjs N _ HN.out 8 3 ⟨#[.int .i64 f, .int .i64 o, undef, undef, .pointer (some ⟨w.heap.size, 0, none⟩), .bool false, undef, .agg #[.string ⟨#[110]⟩, .int .i64 3, .bool false], .agg #[.string ⟨#[110]⟩, .int .i64 2, .bool false], .slice (some ⟨N, 0, none⟩) 2 2, .agg #[.string ⟨#[117, 115, 117, 110]⟩, .int .i64 0, .bool false], .slice (some ⟨N + 1, 0, none⟩) 1 1, .agg #[.string ⟨#[110]⟩, .int .i64 8, .bool false], .agg #[.string ⟨#[110]⟩, .int .i64 9, .bool false], .slice (some ⟨N + 2, 0, none⟩) 2 2, .agg #[.string ⟨#[110, 117, 105]⟩, .int .i64 6, .bool false], .slice (some ⟨N + 3, 0, none⟩) 1 1, .agg #[.string ⟨#[110, 105, 105, 105, 105, 117]⟩, .int .i64 7, .bool false], .agg #[.string ⟨#[]⟩, .int .i64 0, .bool true], .agg #[.string ⟨#[105]⟩, .int .i64 0, .bool false], .slice (some ⟨N + 4, 0, none⟩) 3 3, .agg #[.string ⟨#[]⟩, .int .i64 0, .bool true], .slice (some ⟨N + 5, 0, none⟩) 1 1, .agg #[.string ⟨#[]⟩, .int .i64 0, .bool true], .agg #[.string ⟨#[111, 105, 105]⟩, .int .i64 0, .bool false], .agg #[.string ⟨#[105, 105, 105, 105]⟩, .int .i64 0, .bool false], .agg #[.string ⟨#[110]⟩, .int .i64 3, .bool false], .agg #[.string ⟨#[111]⟩, .int .i64 0, .bool false], .agg #[.string ⟨#[]⟩, .int .i64 0, .bool false], .slice (some ⟨N + 6, 0, none⟩) 6 6, .agg #[.string ⟨#[]⟩, .int .i64 0, .bool true], .agg #[.string ⟨#[105, 105, 105, 105]⟩, .int .i64 0, .bool false], .agg #[.string ⟨#[105, 105, 105, 105]⟩, .int .i64 0, .bool false], .slice (some ⟨N + 7, 0, none⟩) 3 3, .agg #[.string ⟨#[]⟩, .int .i64 0, .bool true], .agg #[.string ⟨#[110, 111, 111]⟩, .int .i64 11, .bool false], .slice (some ⟨N + 8, 0, none⟩) 2 2, undef, undef, undef, undef, undef, undef, undef, undef, undef, undef, undef, undef, undef, undef, undef, undef, undef, undef, undef, undef, undef, undef, undef, undef, undef, undef, undef, undef, undef, undef, undef, undef], []⟩ (by decide) (by kernel_rfl) ?_
 simp only [List.drop_succ_cons, List.drop_zero]
 refine wpList_chunk rqObjs N _ HN.out 9 7 ⟨#[.int .i64 f, .int .i64 o, undef, undef, .pointer (some ⟨w.heap.size, 0, none⟩), .bool false, undef, .agg #[.string ⟨#[110]⟩, .int .i64 3, .bool false], .agg #[.string ⟨#[110]⟩, .int .i64 2, .bool false], .slice (some ⟨N, 0, none⟩) 2 2, .agg #[.string ⟨#[117, 115, 117, 110]⟩, .int .i64 0, .bool false], .slice (some ⟨N + 1, 0, none⟩) 1 1, .agg #[.string ⟨#[110]⟩, .int .i64 8, .bool false], .agg #[.string ⟨#[110]⟩, .int .i64 9, .bool false], .slice (some ⟨N + 2, 0, none⟩) 2 2, .agg #[.string ⟨#[110, 117, 105]⟩, .int .i64 6, .bool false], .slice (some ⟨N + 3, 0, none⟩) 1 1, .agg #[.string ⟨#[110, 105, 105, 105, 105, 117]⟩, .int .i64 7, .bool false], .agg #[.string ⟨#[]⟩, .int .i64 0, .bool true], .agg #[.string ⟨#[105]⟩, .int .i64 0, .bool false], .slice (some ⟨N + 4, 0, none⟩) 3 3, .agg #[.string ⟨#[]⟩, .int .i64 0, .bool true], .slice (some ⟨N + 5, 0, none⟩) 1 1, .agg #[.string ⟨#[]⟩, .int .i64 0, .bool true], .agg #[.string ⟨#[111, 105, 105]⟩, .int .i64 0, .bool false], .agg #[.string ⟨#[105, 105, 105, 105]⟩, .int .i64 0, .bool false], .agg #[.string ⟨#[110]⟩, .int .i64 3, .bool false], .agg #[.string ⟨#[111]⟩, .int .i64 0, .bool false], .agg #[.string ⟨#[]⟩, .int .i64 0, .bool false], .slice (some ⟨N + 6, 0, none⟩) 6 6, .agg #[.string ⟨#[]⟩, .int .i64 0, .bool true], .agg #[.string ⟨#[105, 105, 105, 105]⟩, .int .i64 0, .bool false], .agg #[.string ⟨#[105, 105, 105, 105]⟩, .int .i64 0, .bool false], .slice (some ⟨N + 7, 0, none⟩) 3 3, .agg #[.string ⟨#[]⟩, .int .i64 0, .bool true], .agg #[.string ⟨#[110, 111, 111]⟩, .int .i64 11, .bool false], .slice (some ⟨N + 8, 0, none⟩) 2 2, .agg #[.string ⟨#[]⟩, .int .i64 0, .bool true], .agg #[.string ⟨#[105, 105]⟩, .int .i64 0, .bool false], .agg #[.string ⟨#[111]⟩, .int .i64 0, .bool false], .agg #[.string ⟨#[111]⟩, .int .i64 0, .bool false], .agg #[.string ⟨#[]⟩, .int .i64 0, .bool false], .agg #[.string ⟨#[]⟩, .int .i64 0, .bool false], .slice (some ⟨N + 9, 0, none⟩) 6 6, undef, undef, undef, undef, undef, undef, undef, undef, undef, undef, undef, undef, undef, undef, undef, undef, undef, undef, undef, undef, undef, undef, undef, undef, undef], []⟩ (by decide) (by kernel_rfl) ?_
 simp only [List.drop_succ_cons, List.drop_zero]
 refine wpList_chunk rqObjs N _ HN.out 10 3 ⟨#[.int .i64 f, .int .i64 o, undef, undef, .pointer (some ⟨w.heap.size, 0, none⟩), .bool false, undef, .agg #[.string ⟨#[110]⟩, .int .i64 3, .bool false], .agg #[.string ⟨#[110]⟩, .int .i64 2, .bool false], .slice (some ⟨N, 0, none⟩) 2 2, .agg #[.string ⟨#[117, 115, 117, 110]⟩, .int .i64 0, .bool false], .slice (some ⟨N + 1, 0, none⟩) 1 1, .agg #[.string ⟨#[110]⟩, .int .i64 8, .bool false], .agg #[.string ⟨#[110]⟩, .int .i64 9, .bool false], .slice (some ⟨N + 2, 0, none⟩) 2 2, .agg #[.string ⟨#[110, 117, 105]⟩, .int .i64 6, .bool false], .slice (some ⟨N + 3, 0, none⟩) 1 1, .agg #[.string ⟨#[110, 105, 105, 105, 105, 117]⟩, .int .i64 7, .bool false], .agg #[.string ⟨#[]⟩, .int .i64 0, .bool true], .agg #[.string ⟨#[105]⟩, .int .i64 0, .bool false], .slice (some ⟨N + 4, 0, none⟩) 3 3, .agg #[.string ⟨#[]⟩, .int .i64 0, .bool true], .slice (some ⟨N + 5, 0, none⟩) 1 1, .agg #[.string ⟨#[]⟩, .int .i64 0, .bool true], .agg #[.string ⟨#[111, 105, 105]⟩, .int .i64 0, .bool false], .agg #[.string ⟨#[105, 105, 105, 105]⟩, .int .i64 0, .bool false], .agg #[.string ⟨#[110]⟩, .int .i64 3, .bool false], .agg #[.string ⟨#[111]⟩, .int .i64 0, .bool false], .agg #[.string ⟨#[]⟩, .int .i64 0, .bool false], .slice (some ⟨N + 6, 0, none⟩) 6 6, .agg #[.string ⟨#[]⟩, .int .i64 0, .bool true], .agg #[.string ⟨#[105, 105, 105, 105]⟩, .int .i64 0, .bool false], .agg #[.string ⟨#[105, 105, 105, 105]⟩, .int .i64 0, .bool false], .slice (some ⟨N + 7, 0, none⟩) 3 3, .agg #[.string ⟨#[]⟩, .int .i64 0, .bool true], .agg #[.string ⟨#[110, 111, 111]⟩, .int .i64 11, .bool false], .slice (some ⟨N + 8, 0, none⟩) 2 2, .agg #[.string ⟨#[]⟩, .int .i64 0, .bool true], .agg #[.string ⟨#[105, 105]⟩, .int .i64 0, .bool false], .agg #[.string ⟨#[111]⟩, .int .i64 0, .bool false], .agg #[.string ⟨#[111]⟩, .int .i64 0, .bool false], .agg #[.string ⟨#[]⟩, .int .i64 0, .bool false], .agg #[.string ⟨#[]⟩, .int .i64 0, .bool false], .slice (some ⟨N + 9, 0, none⟩) 6 6, .agg #[.string ⟨#[110]⟩, .int .i64 13, .bool false], .agg #[.string ⟨#[110]⟩, .int .i64 14, .bool false], .slice (some ⟨N + 10, 0, none⟩) 2 2, undef, undef, undef, undef, undef, undef, undef, undef, undef, undef, undef, undef, undef, undef, undef, undef, undef, undef, undef, undef, undef, undef], []⟩ (by decide) (by kernel_rfl) ?_
 simp only [List.drop_succ_cons, List.drop_zero]
 refine wpList_chunk rqObjs N _ HN.out 11 2 ⟨#[.int .i64 f, .int .i64 o, undef, undef, .pointer (some ⟨w.heap.size, 0, none⟩), .bool false, undef, .agg #[.string ⟨#[110]⟩, .int .i64 3, .bool false], .agg #[.string ⟨#[110]⟩, .int .i64 2, .bool false], .slice (some ⟨N, 0, none⟩) 2 2, .agg #[.string ⟨#[117, 115, 117, 110]⟩, .int .i64 0, .bool false], .slice (some ⟨N + 1, 0, none⟩) 1 1, .agg #[.string ⟨#[110]⟩, .int .i64 8, .bool false], .agg #[.string ⟨#[110]⟩, .int .i64 9, .bool false], .slice (some ⟨N + 2, 0, none⟩) 2 2, .agg #[.string ⟨#[110, 117, 105]⟩, .int .i64 6, .bool false], .slice (some ⟨N + 3, 0, none⟩) 1 1, .agg #[.string ⟨#[110, 105, 105, 105, 105, 117]⟩, .int .i64 7, .bool false], .agg #[.string ⟨#[]⟩, .int .i64 0, .bool true], .agg #[.string ⟨#[105]⟩, .int .i64 0, .bool false], .slice (some ⟨N + 4, 0, none⟩) 3 3, .agg #[.string ⟨#[]⟩, .int .i64 0, .bool true], .slice (some ⟨N + 5, 0, none⟩) 1 1, .agg #[.string ⟨#[]⟩, .int .i64 0, .bool true], .agg #[.string ⟨#[111, 105, 105]⟩, .int .i64 0, .bool false], .agg #[.string ⟨#[105, 105, 105, 105]⟩, .int .i64 0, .bool false], .agg #[.string ⟨#[110]⟩, .int .i64 3, .bool false], .agg #[.string ⟨#[111]⟩, .int .i64 0, .bool false], .agg #[.string ⟨#[]⟩, .int .i64 0, .bool false], .slice (some ⟨N + 6, 0, none⟩) 6 6, .agg #[.string ⟨#[]⟩, .int .i64 0, .bool true], .agg #[.string ⟨#[105, 105, 105, 105]⟩, .int .i64 0, .bool false], .agg #[.string ⟨#[105, 105, 105, 105]⟩, .int .i64 0, .bool false], .slice (some ⟨N + 7, 0, none⟩) 3 3, .agg #[.string ⟨#[]⟩, .int .i64 0, .bool true], .agg #[.string ⟨#[110, 111, 111]⟩, .int .i64 11, .bool false], .slice (some ⟨N + 8, 0, none⟩) 2 2, .agg #[.string ⟨#[]⟩, .int .i64 0, .bool true], .agg #[.string ⟨#[105, 105]⟩, .int .i64 0, .bool false], .agg #[.string ⟨#[111]⟩, .int .i64 0, .bool false], .agg #[.string ⟨#[111]⟩, .int .i64 0, .bool false], .agg #[.string ⟨#[]⟩, .int .i64 0, .bool false], .agg #[.string ⟨#[]⟩, .int .i64 0, .bool false], .slice (some ⟨N + 9, 0, none⟩) 6 6, .agg #[.string ⟨#[110]⟩, .int .i64 13, .bool false], .agg #[.string ⟨#[110]⟩, .int .i64 14, .bool false], .slice (some ⟨N + 10, 0, none⟩) 2 2, .agg #[.string ⟨#[]⟩, .int .i64 0, .bool true], .slice (some ⟨N + 11, 0, none⟩) 1 1, undef, undef, undef, undef, undef, undef, undef, undef, undef, undef, undef, undef, undef, undef, undef, undef, undef, undef, undef, undef], []⟩ (by decide) (by kernel_rfl) ?_
 simp only [List.drop_succ_cons, List.drop_zero]
 refine wpList_chunk rqObjs N _ HN.out 12 2 ⟨#[.int .i64 f, .int .i64 o, undef, undef, .pointer (some ⟨w.heap.size, 0, none⟩), .bool false, undef, .agg #[.string ⟨#[110]⟩, .int .i64 3, .bool false], .agg #[.string ⟨#[110]⟩, .int .i64 2, .bool false], .slice (some ⟨N, 0, none⟩) 2 2, .agg #[.string ⟨#[117, 115, 117, 110]⟩, .int .i64 0, .bool false], .slice (some ⟨N + 1, 0, none⟩) 1 1, .agg #[.string ⟨#[110]⟩, .int .i64 8, .bool false], .agg #[.string ⟨#[110]⟩, .int .i64 9, .bool false], .slice (some ⟨N + 2, 0, none⟩) 2 2, .agg #[.string ⟨#[110, 117, 105]⟩, .int .i64 6, .bool false], .slice (some ⟨N + 3, 0, none⟩) 1 1, .agg #[.string ⟨#[110, 105, 105, 105, 105, 117]⟩, .int .i64 7, .bool false], .agg #[.string ⟨#[]⟩, .int .i64 0, .bool true], .agg #[.string ⟨#[105]⟩, .int .i64 0, .bool false], .slice (some ⟨N + 4, 0, none⟩) 3 3, .agg #[.string ⟨#[]⟩, .int .i64 0, .bool true], .slice (some ⟨N + 5, 0, none⟩) 1 1, .agg #[.string ⟨#[]⟩, .int .i64 0, .bool true], .agg #[.string ⟨#[111, 105, 105]⟩, .int .i64 0, .bool false], .agg #[.string ⟨#[105, 105, 105, 105]⟩, .int .i64 0, .bool false], .agg #[.string ⟨#[110]⟩, .int .i64 3, .bool false], .agg #[.string ⟨#[111]⟩, .int .i64 0, .bool false], .agg #[.string ⟨#[]⟩, .int .i64 0, .bool false], .slice (some ⟨N + 6, 0, none⟩) 6 6, .agg #[.string ⟨#[]⟩, .int .i64 0, .bool true], .agg #[.string ⟨#[105, 105, 105, 105]⟩, .int .i64 0, .bool false], .agg #[.string ⟨#[105, 105, 105, 105]⟩, .int .i64 0, .bool false], .slice (some ⟨N + 7, 0, none⟩) 3 3, .agg #[.string ⟨#[]⟩, .int .i64 0, .bool true], .agg #[.string ⟨#[110, 111, 111]⟩, .int .i64 11, .bool false], .slice (some ⟨N + 8, 0, none⟩) 2 2, .agg #[.string ⟨#[]⟩, .int .i64 0, .bool true], .agg #[.string ⟨#[105, 105]⟩, .int .i64 0, .bool false], .agg #[.string ⟨#[111]⟩, .int .i64 0, .bool false], .agg #[.string ⟨#[111]⟩, .int .i64 0, .bool false], .agg #[.string ⟨#[]⟩, .int .i64 0, .bool false], .agg #[.string ⟨#[]⟩, .int .i64 0, .bool false], .slice (some ⟨N + 9, 0, none⟩) 6 6, .agg #[.string ⟨#[110]⟩, .int .i64 13, .bool false], .agg #[.string ⟨#[110]⟩, .int .i64 14, .bool false], .slice (some ⟨N + 10, 0, none⟩) 2 2, .agg #[.string ⟨#[]⟩, .int .i64 0, .bool true], .slice (some ⟨N + 11, 0, none⟩) 1 1, .agg #[.string ⟨#[]⟩, .int .i64 0, .bool true], .slice (some ⟨N + 12, 0, none⟩) 1 1, undef, undef, undef, undef, undef, undef, undef, undef, undef, undef, undef, undef, undef, undef, undef, undef, undef, undef], []⟩ (by decide) (by kernel_rfl) ?_
 simp only [List.drop_succ_cons, List.drop_zero]
 refine wpList_chunk rqObjs N _ HN.out 13 4 ⟨#[.int .i64 f, .int .i64 o, undef, undef, .pointer (some ⟨w.heap.size, 0, none⟩), .bool false, undef, .agg #[.string ⟨#[110]⟩, .int .i64 3, .bool false], .agg #[.string ⟨#[110]⟩, .int .i64 2, .bool false], .slice (some ⟨N, 0, none⟩) 2 2, .agg #[.string ⟨#[117, 115, 117, 110]⟩, .int .i64 0, .bool false], .slice (some ⟨N + 1, 0, none⟩) 1 1, .agg #[.string ⟨#[110]⟩, .int .i64 8, .bool false], .agg #[.string ⟨#[110]⟩, .int .i64 9, .bool false], .slice (some ⟨N + 2, 0, none⟩) 2 2, .agg #[.string ⟨#[110, 117, 105]⟩, .int .i64 6, .bool false], .slice (some ⟨N + 3, 0, none⟩) 1 1, .agg #[.string ⟨#[110, 105, 105, 105, 105, 117]⟩, .int .i64 7, .bool false], .agg #[.string ⟨#[]⟩, .int .i64 0, .bool true], .agg #[.string ⟨#[105]⟩, .int .i64 0, .bool false], .slice (some ⟨N + 4, 0, none⟩) 3 3, .agg #[.string ⟨#[]⟩, .int .i64 0, .bool true], .slice (some ⟨N + 5, 0, none⟩) 1 1, .agg #[.string ⟨#[]⟩, .int .i64 0, .bool true], .agg #[.string ⟨#[111, 105, 105]⟩, .int .i64 0, .bool false], .agg #[.string ⟨#[105, 105, 105, 105]⟩, .int .i64 0, .bool false], .agg #[.string ⟨#[110]⟩, .int .i64 3, .bool false], .agg #[.string ⟨#[111]⟩, .int .i64 0, .bool false], .agg #[.string ⟨#[]⟩, .int .i64 0, .bool false], .slice (some ⟨N + 6, 0, none⟩) 6 6, .agg #[.string ⟨#[]⟩, .int .i64 0, .bool true], .agg #[.string ⟨#[105, 105, 105, 105]⟩, .int .i64 0, .bool false], .agg #[.string ⟨#[105, 105, 105, 105]⟩, .int .i64 0, .bool false], .slice (some ⟨N + 7, 0, none⟩) 3 3, .agg #[.string ⟨#[]⟩, .int .i64 0, .bool true], .agg #[.string ⟨#[110, 111, 111]⟩, .int .i64 11, .bool false], .slice (some ⟨N + 8, 0, none⟩) 2 2, .agg #[.string ⟨#[]⟩, .int .i64 0, .bool true], .agg #[.string ⟨#[105, 105]⟩, .int .i64 0, .bool false], .agg #[.string ⟨#[111]⟩, .int .i64 0, .bool false], .agg #[.string ⟨#[111]⟩, .int .i64 0, .bool false], .agg #[.string ⟨#[]⟩, .int .i64 0, .bool false], .agg #[.string ⟨#[]⟩, .int .i64 0, .bool false], .slice (some ⟨N + 9, 0, none⟩) 6 6, .agg #[.string ⟨#[110]⟩, .int .i64 13, .bool false], .agg #[.string ⟨#[110]⟩, .int .i64 14, .bool false], .slice (some ⟨N + 10, 0, none⟩) 2 2, .agg #[.string ⟨#[]⟩, .int .i64 0, .bool true], .slice (some ⟨N + 11, 0, none⟩) 1 1, .agg #[.string ⟨#[]⟩, .int .i64 0, .bool true], .slice (some ⟨N + 12, 0, none⟩) 1 1, .agg #[.string ⟨#[]⟩, .int .i64 0, .bool true], .agg #[.string ⟨#[110, 111]⟩, .int .i64 16, .bool false], .agg #[.string ⟨#[117]⟩, .int .i64 0, .bool false], .slice (some ⟨N + 13, 0, none⟩) 3 3, undef, undef, undef, undef, undef, undef, undef, undef, undef, undef, undef, undef, undef, undef], []⟩ (by decide) (by kernel_rfl) ?_
 simp only [List.drop_succ_cons, List.drop_zero]
 refine wpList_chunk rqObjs N _ HN.out 14 4 ⟨#[.int .i64 f, .int .i64 o, undef, undef, .pointer (some ⟨w.heap.size, 0, none⟩), .bool false, undef, .agg #[.string ⟨#[110]⟩, .int .i64 3, .bool false], .agg #[.string ⟨#[110]⟩, .int .i64 2, .bool false], .slice (some ⟨N, 0, none⟩) 2 2, .agg #[.string ⟨#[117, 115, 117, 110]⟩, .int .i64 0, .bool false], .slice (some ⟨N + 1, 0, none⟩) 1 1, .agg #[.string ⟨#[110]⟩, .int .i64 8, .bool false], .agg #[.string ⟨#[110]⟩, .int .i64 9, .bool false], .slice (some ⟨N + 2, 0, none⟩) 2 2, .agg #[.string ⟨#[110, 117, 105]⟩, .int .i64 6, .bool false], .slice (some ⟨N + 3, 0, none⟩) 1 1, .agg #[.string ⟨#[110, 105, 105, 105, 105, 117]⟩, .int .i64 7, .bool false], .agg #[.string ⟨#[]⟩, .int .i64 0, .bool true], .agg #[.string ⟨#[105]⟩, .int .i64 0, .bool false], .slice (some ⟨N + 4, 0, none⟩) 3 3, .agg #[.string ⟨#[]⟩, .int .i64 0, .bool true], .slice (some ⟨N + 5, 0, none⟩) 1 1, .agg #[.string ⟨#[]⟩, .int .i64 0, .bool true], .agg #[.string ⟨#[111, 105, 105]⟩, .int .i64 0, .bool false], .agg #[.string ⟨#[105, 105, 105, 105]⟩, .int .i64 0, .bool false], .agg #[.string ⟨#[110]⟩, .int .i64 3, .bool false], .agg #[.string ⟨#[111]⟩, .int .i64 0, .bool false], .agg #[.string ⟨#[]⟩, .int .i64 0, .bool false], .slice (some ⟨N + 6, 0, none⟩) 6 6, .agg #[.string ⟨#[]⟩, .int .i64 0, .bool true], .agg #[.string ⟨#[105, 105, 105, 105]⟩, .int .i64 0, .bool false], .agg #[.string ⟨#[105, 105, 105, 105]⟩, .int .i64 0, .bool false], .slice (some ⟨N + 7, 0, none⟩) 3 3, .agg #[.string ⟨#[]⟩, .int .i64 0, .bool true], .agg #[.string ⟨#[110, 111, 111]⟩, .int .i64 11, .bool false], .slice (some ⟨N + 8, 0, none⟩) 2 2, .agg #[.string ⟨#[]⟩, .int .i64 0, .bool true], .agg #[.string ⟨#[105, 105]⟩, .int .i64 0, .bool false], .agg #[.string ⟨#[111]⟩, .int .i64 0, .bool false], .agg #[.string ⟨#[111]⟩, .int .i64 0, .bool false], .agg #[.string ⟨#[]⟩, .int .i64 0, .bool false], .agg #[.string ⟨#[]⟩, .int .i64 0, .bool false], .slice (some ⟨N + 9, 0, none⟩) 6 6, .agg #[.string ⟨#[110]⟩, .int .i64 13, .bool false], .agg #[.string ⟨#[110]⟩, .int .i64 14, .bool false], .slice (some ⟨N + 10, 0, none⟩) 2 2, .agg #[.string ⟨#[]⟩, .int .i64 0, .bool true], .slice (some ⟨N + 11, 0, none⟩) 1 1, .agg #[.string ⟨#[]⟩, .int .i64 0, .bool true], .slice (some ⟨N + 12, 0, none⟩) 1 1, .agg #[.string ⟨#[]⟩, .int .i64 0, .bool true], .agg #[.string ⟨#[110, 111]⟩, .int .i64 16, .bool false], .agg #[.string ⟨#[117]⟩, .int .i64 0, .bool false], .slice (some ⟨N + 13, 0, none⟩) 3 3, .agg #[.string ⟨#[]⟩, .int .i64 0, .bool true], .agg #[.string ⟨#[110]⟩, .int .i64 17, .bool false], .agg #[.string ⟨#[117]⟩, .int .i64 0, .bool false], .slice (some ⟨N + 14, 0, none⟩) 3 3, undef, undef, undef, undef, undef, undef, undef, undef, undef, undef], []⟩ (by decide) (by kernel_rfl) ?_
 simp only [List.drop_succ_cons, List.drop_zero]
 refine wpList_chunk rqObjs N _ HN.out 15 3 ⟨#[.int .i64 f, .int .i64 o, undef, undef, .pointer (some ⟨w.heap.size, 0, none⟩), .bool false, undef, .agg #[.string ⟨#[110]⟩, .int .i64 3, .bool false], .agg #[.string ⟨#[110]⟩, .int .i64 2, .bool false], .slice (some ⟨N, 0, none⟩) 2 2, .agg #[.string ⟨#[117, 115, 117, 110]⟩, .int .i64 0, .bool false], .slice (some ⟨N + 1, 0, none⟩) 1 1, .agg #[.string ⟨#[110]⟩, .int .i64 8, .bool false], .agg #[.string ⟨#[110]⟩, .int .i64 9, .bool false], .slice (some ⟨N + 2, 0, none⟩) 2 2, .agg #[.string ⟨#[110, 117, 105]⟩, .int .i64 6, .bool false], .slice (some ⟨N + 3, 0, none⟩) 1 1, .agg #[.string ⟨#[110, 105, 105, 105, 105, 117]⟩, .int .i64 7, .bool false], .agg #[.string ⟨#[]⟩, .int .i64 0, .bool true], .agg #[.string ⟨#[105]⟩, .int .i64 0, .bool false], .slice (some ⟨N + 4, 0, none⟩) 3 3, .agg #[.string ⟨#[]⟩, .int .i64 0, .bool true], .slice (some ⟨N + 5, 0, none⟩) 1 1, .agg #[.string ⟨#[]⟩, .int .i64 0, .bool true], .agg #[.string ⟨#[111, 105, 105]⟩, .int .i64 0, .bool false], .agg #[.string ⟨#[105, 105, 105, 105]⟩, .int .i64 0, .bool false], .agg #[.string ⟨#[110]⟩, .int .i64 3, .bool false], .agg #[.string ⟨#[111]⟩, .int .i64 0, .bool false], .agg #[.string ⟨#[]⟩, .int .i64 0, .bool false], .slice (some ⟨N + 6, 0, none⟩) 6 6, .agg #[.string ⟨#[]⟩, .int .i64 0, .bool true], .agg #[.string ⟨#[105, 105, 105, 105]⟩, .int .i64 0, .bool false], .agg #[.string ⟨#[105, 105, 105, 105]⟩, .int .i64 0, .bool false], .slice (some ⟨N + 7, 0, none⟩) 3 3, .agg #[.string ⟨#[]⟩, .int .i64 0, .bool true], .agg #[.string ⟨#[110, 111, 111]⟩, .int .i64 11, .bool false], .slice (some ⟨N + 8, 0, none⟩) 2 2, .agg #[.string ⟨#[]⟩, .int .i64 0, .bool true], .agg #[.string ⟨#[105, 105]⟩, .int .i64 0, .bool false], .agg #[.string ⟨#[111]⟩, .int .i64 0, .bool false], .agg #[.string ⟨#[111]⟩, .int .i64 0, .bool false], .agg #[.string ⟨#[]⟩, .int .i64 0, .bool false], .agg #[.string ⟨#[]⟩, .int .i64 0, .bool false], .slice (some ⟨N + 9, 0, none⟩) 6 6, .agg #[.string ⟨#[110]⟩, .int .i64 13, .bool false], .agg #[.string ⟨#[110]⟩, .int .i64 14, .bool false], .slice (some ⟨N + 10, 0, none⟩) 2 2, .agg #[.string ⟨#[]⟩, .int .i64 0, .bool true], .slice (some ⟨N + 11, 0, none⟩) 1 1, .agg #[.string ⟨#[]⟩, .int .i64 0, .bool true], .slice (some ⟨N + 12, 0, none⟩) 1 1, .agg #[.string ⟨#[]⟩, .int .i64 0, .bool true], .agg #[.string ⟨#[110, 111]⟩, .int .i64 16, .bool false], .agg #[.string ⟨#[117]⟩, .int .i64 0, .bool false], .slice (some ⟨N + 13, 0, none⟩) 3 3, .agg #[.string ⟨#[]⟩, .int .i64 0, .bool true], .agg #[.string ⟨#[110]⟩, .int .i64 17, .bool false], .agg #[.string ⟨#[117]⟩, .int .i64 0, .bool false], .slice (some ⟨N + 14, 0, none⟩) 3 3, .agg #[.string ⟨#[]⟩, .int .i64 0, .bool true], .agg #[.string ⟨#[115]⟩, .int .i64 0, .bool false], .slice (some ⟨N + 15, 0, none⟩) 2 2, undef, undef, undef, undef, undef, undef, undef], []⟩ (by decide) (by kernel_rfl) ?_
 simp only [List.drop_succ_cons, List.drop_zero]
 rw [HW.out]
 clear HW HN
 refine wpList_litvar 240 _ 62 6 ⟨rfl, rfl, rfl⟩ ⟨rfl, rfl, rfl⟩ ⟨rfl, rfl, rfl⟩ #[.slice none 0 0, .slice (some ⟨N, 0, none⟩) 2 2, .slice (some ⟨N + 1, 0, none⟩) 1 1, .slice none 0 0, .slice (some ⟨N + 2, 0, none⟩) 2 2, .slice (some ⟨N + 3, 0, none⟩) 1 1, .slice (some ⟨N + 4, 0, none⟩) 3 3, .slice (some ⟨N + 5, 0, none⟩) 1 1, .slice (some ⟨N + 6, 0, none⟩) 6 6, .slice (some ⟨N + 7, 0, none⟩) 3 3, .slice (some ⟨N + 8, 0, none⟩) 2 2, .slice (some ⟨N + 9, 0, none⟩) 6 6, .slice (some ⟨N + 10, 0, none⟩) 2 2, .slice (some ⟨N + 11, 0, none⟩) 1 1, .slice (some ⟨N + 12, 0, none⟩) 1 1, .slice (some ⟨N + 13, 0, none⟩) 3 3, .slice (some ⟨N + 14, 0, none⟩) 3 3, .slice (some ⟨N + 15, 0, none⟩) 2 2] (by kernel_rfl) (.agg #[.slice none 0 0, .slice none 0 0, .slice none 0 0, .slice none 0 0, .slice none 0 0, .slice none 0 0, .slice none 0 0, .slice none 0 0, .slice none 0 0, .slice none 0 0, .slice none 0 0, .slice none 0 0, .slice none 0 0, .slice none 0 0, .slice none 0 0, .slice none 0 0, .slice none 0 0, .slice none 0 0]) 18 (by kernel_rfl) rfl rfl (by kernel_rfl) W.heap.size rfl ⟨#[.int .i64 f, .int .i64 o, undef, undef, .pointer (some ⟨w.heap.size, 0, none⟩), .bool false, .pointer (some ⟨W.heap.size, 0, none⟩), .agg #[.string ⟨#[110]⟩, .int .i64 3, .bool false], .agg #[.string ⟨#[110]⟩, .int .i64 2, .bool false], .slice (some ⟨N, 0, none⟩) 2 2, .agg #[.string ⟨#[117, 115, 117, 110]⟩, .int .i64 0, .bool false], .slice (some ⟨N + 1, 0, none⟩) 1 1, .agg #[.string ⟨#[110]⟩, .int .i64 8, .bool false], .agg #[.string ⟨#[110]⟩, .int .i64 9, .bool false], .slice (some ⟨N + 2, 0, none⟩) 2 2, .agg #[.string ⟨#[110, 117, 105]⟩, .int .i64 6, .bool false], .slice (some ⟨N + 3, 0, none⟩) 1 1, .agg #[.string ⟨#[110, 105, 105, 105, 105, 117]⟩, .int .i64 7, .bool false], .agg #[.string ⟨#[]⟩, .int .i64 0, .bool true], .agg #[.string ⟨#[105]⟩, .int .i64 0, .bool false], .slice (some ⟨N + 4, 0, none⟩) 3 3, .agg #[.string ⟨#[]⟩, .int .i64 0, .bool true], .slice (some ⟨N + 5, 0, none⟩) 1 1, .agg #[.string ⟨#[]⟩, .int .i64 0, .bool true], .agg #[.string ⟨#[111, 105, 105]⟩, .int .i64 0, .bool false], .agg #[.string ⟨#[105, 105, 105, 105]⟩, .int .i64 0, .bool false], .agg #[.string ⟨#[110]⟩, .int .i64 3, .bool false], .agg #[.string ⟨#[111]⟩, .int .i64 0, .bool false], .agg #[.string ⟨#[]⟩, .int .i64 0, .bool false], .slice (some ⟨N + 6, 0, none⟩) 6 6, .agg #[.string ⟨#[]⟩, .int .i64 0, .bool true], .agg #[.string ⟨#[105, 105, 105, 105]⟩, .int .i64 0, .bool false], .agg #[.string ⟨#[105, 105, 105, 105]⟩, .int .i64 0, .bool false], .slice (some ⟨N + 7, 0, none⟩) 3 3, .agg #[.string ⟨#[]⟩, .int .i64 0, .bool true], .agg #[.string ⟨#[110, 111, 111]⟩, .int .i64 11, .bool false], .slice (some ⟨N + 8, 0, none⟩) 2 2, .agg #[.string ⟨#[]⟩, .int .i64 0, .bool true], .agg #[.string ⟨#[105, 105]⟩, .int .i64 0, .bool false], .agg #[.string ⟨#[111]⟩, .int .i64 0, .bool false], .agg #[.string ⟨#[111]⟩, .int .i64 0, .bool false], .agg #[.string ⟨#[]⟩, .int .i64 0, .bool false], .agg #[.string ⟨#[]⟩, .int .i64 0, .bool false], .slice (some ⟨N + 9, 0, none⟩) 6 6, .agg #[.string ⟨#[110]⟩, .int .i64 13, .bool false], .agg #[.string ⟨#[110]⟩, .int .i64 14, .bool false], .slice (some ⟨N + 10, 0, none⟩) 2 2, .agg #[.string ⟨#[]⟩, .int .i64 0, .bool true], .slice (some ⟨N + 11, 0, none⟩) 1 1, .agg #[.string ⟨#[]⟩, .int .i64 0, .bool true], .slice (some ⟨N + 12, 0, none⟩) 1 1, .agg #[.string ⟨#[]⟩, .int .i64 0, .bool true], .agg #[.string ⟨#[110, 111]⟩, .int .i64 16, .bool false], .agg #[.string ⟨#[117]⟩, .int .i64 0, .bool false], .slice (some ⟨N + 13, 0, none⟩) 3 3, .agg #[.string ⟨#[]⟩, .int .i64 0, .bool true], .agg #[.string ⟨#[110]⟩, .int .i64 17, .bool false], .agg #[.string ⟨#[117]⟩, .int .i64 0, .bool false], .slice (some ⟨N + 14, 0, none⟩) 3 3, .agg #[.string ⟨#[]⟩, .int .i64 0, .bool true], .agg #[.string ⟨#[115]⟩, .int .i64 0, .bool false], .slice (some ⟨N + 15, 0, none⟩) 2 2, .agg #[.slice none 0 0, .slice (some ⟨N, 0, none⟩) 2 2, .slice (some ⟨N + 1, 0, none⟩) 1 1, .slice none 0 0, .slice (some ⟨N + 2, 0, none⟩) 2 2, .slice (some ⟨N + 3, 0, none⟩) 1 1, .slice (some ⟨N + 4, 0, none⟩) 3 3, .slice (some ⟨N + 5, 0, none⟩) 1 1, .slice (some ⟨N + 6, 0, none⟩) 6 6, .slice (some ⟨N + 7, 0, none⟩) 3 3, .slice (some ⟨N + 8, 0, none⟩) 2 2, .slice (some ⟨N + 9, 0, none⟩) 6 6, .slice (some ⟨N + 10, 0, none⟩) 2 2, .slice (some ⟨N + 11, 0, none⟩) 1 1, .slice (some ⟨N + 12, 0, none⟩) 1 1, .slice (some ⟨N + 13, 0, none⟩) 3 3, .slice (some ⟨N + 14, 0, none⟩) 3 3, .slice (some ⟨N + 15, 0, none⟩) 2 2], undef, undef, undef, undef, undef, undef], []⟩ (by kernel_rfl) (by kernel_rfl) (by kernel_rfl) ?_
 go_upto_region 2 with fail
 refine wp_region_lit ?_
 refine wpList_load_row rfl _ _ rfl W.heap.size rfl 240 #[.slice none 0 0, .slice (some ⟨N, 0, none⟩) 2 2, .slice (some ⟨N + 1, 0, none⟩) 1 1, .slice none 0 0, .slice (some ⟨N + 2, 0, none⟩) 2 2, .slice (some ⟨N + 3, 0, none⟩) 1 1, .slice (some ⟨N + 4, 0, none⟩) 3 3, .slice (some ⟨N + 5, 0, none⟩) 1 1, .slice (some ⟨N + 6, 0, none⟩) 6 6, .slice (some ⟨N + 7, 0, none⟩) 3 3, .slice (some ⟨N + 8, 0, none⟩) 2 2, .slice (some ⟨N + 9, 0, none⟩) 6 6, .slice (some ⟨N + 10, 0, none⟩) 2 2, .slice (some ⟨N + 11, 0, none⟩) 1 1, .slice (some ⟨N + 12, 0, none⟩) 1 1, .slice (some ⟨N + 13, 0, none⟩) 3 3, .slice (some ⟨N + 14, 0, none⟩) 3 3, .slice (some ⟨N + 15, 0, none⟩) 2 2] (0, 0) _ (heap_alloc_last W _) Tryz.underlying240 rfl (by kernel_rfl) ?_
 go_wp2_with (go_at_call 114; refine (HC.out _).mono ?_; rintro e w' ⟨rfl, hz, hb⟩; have z0 : w'.cell? ⟨w.heap.size, 0, none⟩ = some (.string ⟨#[]⟩) := (by rw [World.cell?, hz]; rfl); have z1 : w'.cell? ⟨w.heap.size, 1, none⟩ = some (.int .i64 0) := (by rw [World.cell?, hz]; rfl); have z2 : w'.cell? ⟨w.heap.size, 2, none⟩ = some (.bool false) := (by rw [World.cell?, hz]; rfl); have zf : ∀ k, w'.frozen? ⟨w.heap.size, k, none⟩ = false := Lib.frozen_of_heap hz; clear hz; have HB : Hid (Below w.heap.size w w') := hb; clear hb)
 refine bodyPost_ret (v := .tuple #[.agg #[.string ⟨qs.toArray⟩, .int .i64 qm, .bool qb], .bool qi]) ?_ rfl ⟨rfl, ?_⟩
 ·simp [results, Tryz.results71, go_sem, z0, z1, z2]
 ·exact ((HB.out.setCell (p := ⟨w.heap.size, 0, none⟩) (Nat.le_refl _) _).setCell (p := ⟨w.heap.size, 1, none⟩) (Nat.le_refl _) _).setCell (p := ⟨w.heap.size, 2, none⟩) (Nat.le_refl _) _
theorem eventAt_any (f o : Int) (w : World) :
  Calls Tryz.prog 162 #[.int .i64 f, .int .i64 o] w fun e w' => e = .returned (.tuple #[.string ⟨(evS f o).toArray⟩, .bool (evAt f o).isSome]) ∧ Below w.heap.size w w' := by
 obtain ⟨N, hN⟩ : ∃ N, w.heap.size = N := ⟨_, rfl⟩
 obtain ⟨W, hW⟩ : ∃ W, allocs evObjs w = W := ⟨_, rfl⟩
 have bW : Below w.heap.size w W := by
  rw [← hW]
  exact allocs_below _ _ _ (Nat.le_refl _)
 have HC : Hid (∀ b : Obj, Calls Tryz.prog 231 #[.agg #[.slice none 0 0, .slice (some ⟨N, 0, none⟩) 2 2, .slice (some ⟨N + 1, 0, none⟩) 1 1, .slice (some ⟨N + 2, 0, none⟩) 1 1, .slice none 0 0, .slice (some ⟨N + 3, 0, none⟩) 1 1, .slice none 0 0, .slice (some ⟨N + 4, 0, none⟩) 1 1, .slice none 0 0, .slice none 0 0, .slice none 0 0, .slice none 0 0, .slice (some ⟨N + 5, 0, none⟩) 1 1, .slice (some ⟨N + 6, 0, none⟩) 4 4, .slice (some ⟨N + 7, 0, none⟩) 3 3, .slice (some ⟨N + 8, 0, none⟩) 1 1, .slice (some ⟨N + 9, 0, none⟩) 1 1, .slice (some ⟨N + 10, 0, none⟩) 2 2], .int .i64 f, .int .i64 o] (W.alloc b) fun e w' => e = .returned (.tuple #[.string ⟨(evS f o).toArray⟩, .bool (evAt f o).isSome]) ∧ Below w.heap.size w w') := by
  intro b
  have b1 := below1 W b
  refine (atStr_tab N (W.alloc b) (fun i r h => ?_) f o).mono ?_
  ·have h2 := ev_blocks w i r h
   rw [hW, hN] at h2
   rw [b1.block _ (Array.getElem?_eq_some_iff.1 h2).1]
   exact h2
  ·rintro e w' ⟨he, hb⟩
   have hb' : Below W.heap.size W w' := b1.trans (hb.mono b1.size)
   exact ⟨he, bW.trans (hb'.mono bW.size)⟩
 have HW : Hid (allocs (evObjs.take 11) w = W) := by
  show allocs (evObjs.take 11) _ = W
  rw [ev_all]
  exact hW
 have HN : Hid (w.heap.size = N) := hN
 clear hN bW hW
 generalize evS f o = qs at *
 generalize (evAt f o).isSome = qi at *
 go_enter Tryz.func162, Tryz.ntmps162
 go_upto_region 1 with fail
 refine wp_region_start evObjs ?_
 refine wpList_chunk evObjs N _ HN.out 0 1 ⟨#[.int .i64 f, .int .i64 o, undef, undef, .string ⟨#[]⟩, .bool false, undef, .slice (some ⟨N, 0, none⟩) 2 2, undef, undef, undef, undef, undef, undef, undef, undef, undef, undef, undef, undef, undef, undef, undef, undef, undef], []⟩ (by decide) (by kernel_rfl) ?_
 simp only [List.drop_succ_cons, List.drop_zero]
 refine wpList_chunk evObjs N _ HN.out 1 1 ⟨#[.int .i64 f, .int .i64 o, undef, undef, .string ⟨#[]⟩, .bool false, undef, .slice (some ⟨N, 0, none⟩) 2 2, .slice (some ⟨N + 1, 0, none⟩) 1 1, undef, undef, undef, undef, undef, undef, undef, undef, undef, undef, undef, undef, undef, undef, undef, undef], []⟩ (by decide) (by kernel_rfl) ?_
 simp only [List.drop_succ_cons, List.drop_zero]
 refine wpList_chunk evObjs N _ HN.out 2 1 ⟨#[.int .i64 f, .int .i64 o, undef, undef, .string ⟨#[]⟩, .bool false, undef, .slice (some ⟨N, 0, none⟩) 2 2, .slice (some ⟨N + 1, 0, none⟩) 1 1, .slice (some ⟨N + 2, 0, none⟩) 1 1, undef, undef, undef, undef, undef, undef, undef, undef, undef, undef, undef, undef, undef, undef, undef], []⟩ (by decide) (by kernel_rfl) ?_
 simp only [List.drop_succ_cons, List.drop_zero]
 refine wpList_chunk evObjs N _ HN.out 3 1 ⟨#[.int .i64 f, .int .i64 o, undef, undef, .string ⟨#[]⟩, .bool false, undef, .slice (some ⟨N, 0, none⟩) 2 2, .slice (some ⟨N + 1, 0, none⟩) 1 1, .slice (some ⟨N + 2, 0, none⟩) 1 1, .slice (some ⟨N + 3, 0, none⟩) 1 1, undef, undef, undef, undef, undef, undef, undef, undef, undef, undef, undef, undef, undef, undef], []⟩ (by decide) (by kernel_rfl) ?_
 simp only [List.drop_succ_cons, List.drop_zero]
 refine wpList_chunk evObjs N _ HN.out 4 1 ⟨#[.int .i64 f, .int .i64 o, undef, undef, .string ⟨#[]⟩, .bool false, undef, .slice (some ⟨N, 0, none⟩) 2 2, .slice (some ⟨N + 1, 0, none⟩) 1 1, .slice (some ⟨N + 2, 0, none⟩) 1 1, .slice (some ⟨N + 3, 0, none⟩) 1 1, .slice (some ⟨N + 4, 0, none⟩) 1 1, undef, undef, undef, undef, undef, undef, undef, undef, undef, undef, undef, undef, undef], []⟩ (by decide) (by kernel_rfl) ?_
 simp only [List.drop_succ_cons, List.drop_zero]
 refine wpList_chunk evObjs N _ HN.out 5 1 ⟨#[.int .i64 f, .int .i64 o, undef, undef, .string ⟨#[]⟩, .bool false, undef, .slice (some ⟨N, 0, none⟩) 2 2, .slice (some ⟨N + 1, 0, none⟩) 1 1, .slice (some ⟨N + 2, 0, none⟩) 1 1, .slice (some ⟨N + 3, 0, none⟩) 1 1, .slice (some ⟨N + 4, 0, none⟩) 1 1, .slice (some ⟨N + 5, 0, none⟩) 1 1, undef, undef, undef, undef, undef, undef, undef, undef, undef, undef, undef, undef], []⟩ (by decide) (by kernel_rfl) ?_
 simp only [List.drop_succ_cons, List.drop_zero]
 refine wpList_chunk evObjs N _ HN.out 6 1 ⟨#[.int .i64 f, .int .i64 o, undef, undef, .string ⟨#[]⟩, .bool false, undef, .slice (some ⟨N, 0, none⟩) 2 2, .slice (some ⟨N + 1, 0, none⟩) 1 1, .slice (some ⟨N + 2, 0, none⟩) 1 1, .slice (some ⟨N + 3, 0, none⟩) 1 1, .slice (some ⟨N + 4, 0, none⟩) 1 1, .slice (some ⟨N + 5, 0, none⟩) 1 1, .slice (some ⟨N + 6, 0, none⟩) 4 4, undef, undef, undef, undef, undef, undef, undef, undef, undef, undef, undef], []⟩ (by decide) (by kernel_rfl) ?_
 simp only [List.drop_succ_cons, List.drop_zero]
 refine wpList_chunk evObjs N _ HN.out 7 1 ⟨#[.int .i64 f, .int .i64 o, undef, undef, .string ⟨#[]⟩, .bool false, undef, .slice (some ⟨N, 0, none⟩) 2 2, .slice (some ⟨N + 1, 0, none⟩) 1 1, .slice (some ⟨N + 2, 0, none⟩) 1 1, .slice (some ⟨N + 3, 0, none⟩) 1 1, .slice (some ⟨N + 4, 0, none⟩) 1 1, .slice (some ⟨N + 5, 0, none⟩) 1 1, .slice (some ⟨N + 6, 0, none⟩) 4 4, .slice (some ⟨N + 7, 0, none⟩) 3 3, undef, undef, undef, undef, undef, undef, undef, undef, undef, undef], []⟩ (by decide) (by kernel_rfl) ?_
 simp only [List.drop_succ_cons, List.drop_zero]
 refine wpList_chunk evObjs N _ HN.out 8 1 ⟨#[.int .i64 f, .int .i64 o, undef, undef, .string ⟨#[]⟩, .bool false, undef, .slice (some ⟨N, 0, none⟩) 2 2, .slice (some ⟨N + 1, 0, none⟩) 1 1, .slice (some ⟨N + 2, 0, none⟩) 1 1, .slice (some ⟨N + 3, 0, none⟩) 1 1, .slice (some ⟨N + 4, 0, none⟩) 1 1, .slice (some ⟨N + 5, 0, none⟩) 1 1, .slice (some ⟨N + 6, 0, none⟩) 4 4, .slice (some ⟨N + 7, 0, none⟩) 3 3, .slice (some ⟨N + 8, 0, none⟩) 1 1, undef, undef, undef, undef, undef, undef, undef, undef, undef], []⟩ (by decide) (by kernel_rfl) ?_
 simp only [List.drop_succ_cons, List.drop_zero]
 refine wpList_chunk evObjs N _ HN.out 9 1 ⟨#[.int .i64 f, .int .i64 o, undef, undef, .string ⟨#[]⟩, .bool false, undef, .slice (some ⟨N, 0, none⟩) 2 2, .slice (some ⟨N + 1, 0, none⟩) 1 1, .slice (some ⟨N + 2, 0, none⟩) 1 1, .slice (some ⟨N + 3, 0, none⟩) 1 1, .slice (some ⟨N + 4, 0, none⟩) 1 1, .slice (some ⟨N + 5, 0, none⟩) 1 1, .slice (some ⟨N + 6, 0, none⟩) 4 4, .slice (some ⟨N + 7, 0, none⟩) 3 3, .slice (some ⟨N + 8, 0, none⟩) 1 1, .slice (some ⟨N + 9, 0, none⟩) 1 1, undef, undef, undef, undef, undef, undef, undef, undef], []⟩ (by decide) (by kernel_rfl) ?_
 simp only [List.drop_succ_cons, List.drop_zero]
 refine wpList_chunk evObjs N _ HN.out 10 1 ⟨#[.int .i64 f, .int .i64 o, undef, undef, .string ⟨#[]⟩, .bool false, undef, .slice (some ⟨N, 0, none⟩) 2 2, .slice (some ⟨N + 1, 0, none⟩) 1 1, .slice (some ⟨N + 2, 0, none⟩) 1 1, .slice (some ⟨N + 3, 0, none⟩) 1 1, .slice (some ⟨N + 4, 0, none⟩) 1 1, .slice (some ⟨N + 5, 0, none⟩) 1 1, .slice (some ⟨N + 6, 0, none⟩) 4 4, .slice (some ⟨N + 7, 0, none⟩) 3 3, .slice (some ⟨N + 8, 0, none⟩) 1 1, .slice (some ⟨N + 9, 0, none⟩) 1 1, .slice (some ⟨N + 10, 0, none⟩) 2 2, undef, undef, undef, undef, undef, undef, undef], []⟩ (by decide) (by kernel_rfl) ?_
 simp only [List.drop_succ_cons, List.drop_zero]
 rw [HW.out]
 clear HW HN
 refine wpList_litvar 332 _ 18 6 ⟨rfl, rfl, rfl⟩ ⟨rfl, rfl, rfl⟩ ⟨rfl, rfl, rfl⟩ #[.slice none 0 0, .slice (some ⟨N, 0, none⟩) 2 2, .slice (some ⟨N + 1, 0, none⟩) 1 1, .slice (some ⟨N + 2, 0, none⟩) 1 1, .slice none 0 0, .slice (some ⟨N + 3, 0, none⟩) 1 1, .slice none 0 0, .slice (some ⟨N + 4, 0, none⟩) 1 1, .slice none 0 0, .slice none 0 0, .slice none 0 0, .slice none 0 0, .slice (some ⟨N + 5, 0, none⟩) 1 1, .slice (some ⟨N + 6, 0, none⟩) 4 4, .slice (some ⟨N + 7, 0, none⟩) 3 3, .slice (some ⟨N + 8, 0, none⟩) 1 1, .slice (some ⟨N + 9, 0, none⟩) 1 1, .slice (some ⟨N + 10, 0, none⟩) 2 2] (by kernel_rfl) (.agg #[.slice none 0 0, .slice none 0 0, .slice none 0 0, .slice none 0 0, .slice none 0 0, .slice none 0 0, .slice none 0 0, .slice none 0 0, .slice none 0 0, .slice none 0 0, .slice none 0 0, .slice none 0 0, .slice none 0 0, .slice none 0 0, .slice none 0 0, .slice none 0 0, .slice none 0 0, .slice none 0 0]) 18 (by kernel_rfl) rfl rfl (by kernel_rfl) W.heap.size rfl ⟨#[.int .i64 f, .int .i64 o, undef, undef, .string ⟨#[]⟩, .bool false, .pointer (some ⟨W.heap.size, 0, none⟩), .slice (some ⟨N, 0, none⟩) 2 2, .slice (some ⟨N + 1, 0, none⟩) 1 1, .slice (some ⟨N + 2, 0, none⟩) 1 1, .slice (some ⟨N + 3, 0, none⟩) 1 1, .slice (some ⟨N + 4, 0, none⟩) 1 1, .slice (some ⟨N + 5, 0, none⟩) 1 1, .slice (some ⟨N + 6, 0, none⟩) 4 4, .slice (some ⟨N + 7, 0, none⟩) 3 3, .slice (some ⟨N + 8, 0, none⟩) 1 1, .slice (some ⟨N + 9, 0, none⟩) 1 1, .slice (some ⟨N + 10, 0, none⟩) 2 2, .agg #[.slice none 0 0, .slice (some ⟨N, 0, none⟩) 2 2, .slice (some ⟨N + 1, 0, none⟩) 1 1, .slice (some ⟨N + 2, 0, none⟩) 1 1, .slice none 0 0, .slice (some ⟨N + 3, 0, none⟩) 1 1, .slice none 0 0, .slice (some ⟨N + 4, 0, none⟩) 1 1, .slice none 0 0, .slice none 0 0, .slice none 0 0, .slice none 0 0, .slice (some ⟨N + 5, 0, none⟩) 1 1, .slice (some ⟨N + 6, 0, none⟩) 4 4, .slice (some ⟨N + 7, 0, none⟩) 3 3, .slice (some ⟨N + 8, 0, none⟩) 1 1, .slice (some ⟨N + 9, 0, none⟩) 1 1, .slice (some ⟨N + 10, 0, none⟩) 2 2], undef, undef, undef, undef, undef, undef], []⟩ (by kernel_rfl) (by kernel_rfl) (by kernel_rfl) ?_
 go_upto_region 2 with fail
 refine wp_region_lit ?_
 refine wpList_load_row rfl _ _ rfl W.heap.size rfl 332 #[.slice none 0 0, .slice (some ⟨N, 0, none⟩) 2 2, .slice (some ⟨N + 1, 0, none⟩) 1 1, .slice (some ⟨N + 2, 0, none⟩) 1 1, .slice none 0 0, .slice (some ⟨N + 3, 0, none⟩) 1 1, .slice none 0 0, .slice (some ⟨N + 4, 0, none⟩) 1 1, .slice none 0 0, .slice none 0 0, .slice none 0 0, .slice none 0 0, .slice (some ⟨N + 5, 0, none⟩) 1 1, .slice (some ⟨N + 6, 0, none⟩) 4 4, .slice (some ⟨N + 7, 0, none⟩) 3 3, .slice (some ⟨N + 8, 0, none⟩) 1 1, .slice (some ⟨N + 9, 0, none⟩) 1 1, .slice (some ⟨N + 10, 0, none⟩) 2 2] (0, 0) _ (heap_alloc_last W _) Tryz.underlying332 rfl (by kernel_rfl) ?_
 go_wp2_with (go_at_call 231; refine (HC.out _).mono ?_; rintro e w' ⟨rfl, hb⟩; have HB : Hid (Below w.heap.size w w') := hb; clear hb)
 go_ret2
 exact ⟨rfl, HB.out⟩
end
end Go.Proofs.YtpbgbpcdohdecaaGreatDoor
