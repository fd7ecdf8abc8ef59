/- A fan of surfaces: one, and its subsurfaces, each at a place. No program. -/
import Derived.Test.YtdgknofpkafppaaDoorBg
import Derived.Test.YtdgknofpkafppaaDoorBh
namespace Go.Proofs.YtdgknofpkafppaaDoor
open Go Go.RowKit

def fnI : Nat → List (Int × Int) → List (List Int)
  | _, [] => []
  | i, _ :: l => [((i : Nat) : Int)] :: fnI (i + 1) l
def fnP : Nat → List (Int × Int) → List (List Int)
  | _, [] => []
  | i, c :: l => [((i : Nat) : Int), edg c.1, edg c.2] :: fnP (i + 1) l
/-- The order: the parent first, or, below, last. -/
def fnO (b : Bool) (cs : List (Int × Int)) : List (List Int) := bif b then fnI 2 cs ++ [[0]] else [0] :: fnI 2 cs
def fnC : Nat → List (Int × Int) → Fo
  | _, [] => []
  | i, _ :: l => (((i : Nat) : Int), ⟨1, true, sq0, { sq0 with at_ := true, buf := ((i + 8 : Nat) : Int) }, sqA⟩) :: fnC (i + 1) l
/-- All but the first one committed, and waiting. -/
def fan (b : Bool) (cs : List (Int × Int)) : Fo := (1, ⟨0, false, ⟨true, 9, [], [], false, false, [], !cs.isEmpty, bif cs.isEmpty then [] else fnO b cs, fnP 2 cs⟩, sq0, sqA⟩) :: fnC 2 cs
def fn1 (b : Bool) (cs : List (Int × Int)) : Fo := addF (fan b cs) ((cs.length + 2 : Nat) : Int)
def fn2 (b : Bool) (cs : List (Int × Int)) : Fo := subFB (fn1 b cs) ((cs.length + 2 : Nat) : Int) 1
def fn3 (b : Bool) (cs : List (Int × Int)) : Fo := upd (fn2 b cs) ((cs.length + 2 : Nat) : Int) (attS (10 + (cs.length : Int)))
def fn4 (b : Bool) (cs : List (Int × Int)) (x y : Int) : Fo := posF (fn3 b cs) ((cs.length + 2 : Nat) : Int) x y
def fn5 (b : Bool) (cs : List (Int × Int)) (x y : Int) : Fo := bif b then putF (fn4 b cs x y) ((cs.length + 2 : Nat) : Int) 1 0 else fn4 b cs x y
theorem fn_0 : addE [] 1 = 0 ∧ hasE (addF [] 1) 1 = 0 := by decide
theorem fn_00 (b : Bool) : upd (addF [] 1) 1 (attS 9) = fan b [] := by rfl
/-- What each call of a round answers, and what is there behind it. -/
def FnR (b : Bool) (cs : List (Int × Int)) (x y : Int) : Prop :=
  addE (fan b cs) ((cs.length + 2 : Nat) : Int) = 0 ∧ subEB (fn1 b cs) ((cs.length + 2 : Nat) : Int) 1 = 0 ∧ hasE (fn2 b cs) ((cs.length + 2 : Nat) : Int) = 0 ∧ unsE (fn3 b cs) ((cs.length + 2 : Nat) : Int) = 0 ∧ (b = true → putE (fn4 b cs x y) ((cs.length + 2 : Nat) : Int) 1 0 = 0) ∧ hasE (fn5 b cs x y) ((cs.length + 2 : Nat) : Int) = 0 ∧ comB (fn5 b cs x y) ((cs.length + 2 : Nat) : Int) = (fan b (cs ++ [(x, y)]), [])
theorem fn_round : ∀ (b : Bool) (cs : List (Int × Int)) (x y : Int), cs.length < 6 → FnR b cs x y
  | b, [], x, y, _ => by cases b <;> exact ⟨by kernel_rfl, by kernel_rfl, by kernel_rfl, by kernel_rfl, fun _ => by kernel_rfl, by kernel_rfl, by kernel_rfl⟩
  | b, [_], x, y, _ => by cases b <;> exact ⟨by kernel_rfl, by kernel_rfl, by kernel_rfl, by kernel_rfl, fun _ => by kernel_rfl, by kernel_rfl, by kernel_rfl⟩
  | b, [_, _], x, y, _ => by cases b <;> exact ⟨by kernel_rfl, by kernel_rfl, by kernel_rfl, by kernel_rfl, fun _ => by kernel_rfl, by kernel_rfl, by kernel_rfl⟩
  | b, [_, _, _], x, y, _ => by cases b <;> exact ⟨by kernel_rfl, by kernel_rfl, by kernel_rfl, by kernel_rfl, fun _ => by kernel_rfl, by kernel_rfl, by kernel_rfl⟩
  | b, [_, _, _, _], x, y, _ => by cases b <;> exact ⟨by kernel_rfl, by kernel_rfl, by kernel_rfl, by kernel_rfl, fun _ => by kernel_rfl, by kernel_rfl, by kernel_rfl⟩
  | b, [_, _, _, _, _], x, y, _ => by cases b <;> exact ⟨by kernel_rfl, by kernel_rfl, by kernel_rfl, by kernel_rfl, fun _ => by kernel_rfl, by kernel_rfl, by kernel_rfl⟩
  | _, _ :: _ :: _ :: _ :: _ :: _ :: _, _, _, h => by simp at h; omega
def fnZ (b : Bool) (cs : List (Int × Int)) : Fo := (comB (fan b cs) 1).1
def fnW : Nat → List (Int × Int) → List (List Int)
  | _, [] => []
  | i, c :: l => [((i : Nat) : Int), c.1, c.2] :: fnW (i + 1) l
/-- What is to be seen. -/
def fnS (b : Bool) (cs : List (Int × Int)) : List (List Int) := bif b then fnW 2 cs ++ [[1, 0, 0]] else [1, 0, 0] :: fnW 2 cs
def fnE (cs : List (Int × Int)) : List (Int × Int) := cs.map fun c => (0 + edg c.1, 0 + edg c.2)
def fnN (k : Nat) : List Int := (List.range (k + 1)).map fun i => ((i + 9 : Nat) : Int)
def FnE (b : Bool) (cs : List (Int × Int)) : Prop := hasE (fan b cs) 1 = 0 ∧ (comB (fan b cs) 1).2.length = cs.length + 1 ∧ wlk (fnZ b cs) 41 1 0 0 = fnS b (fnE cs) ∧ hldL (fnZ b cs) = fnN cs.length
theorem fn_end : ∀ (b : Bool) (cs : List (Int × Int)), 1 ≤ cs.length → cs.length < 7 → FnE b cs
  | _, [], h, _ => by simp at h
  | b, [_], _, _ => by cases b <;> exact ⟨by kernel_rfl, by kernel_rfl, by kernel_rfl, by kernel_rfl⟩
  | b, [_, _], _, _ => by cases b <;> exact ⟨by kernel_rfl, by kernel_rfl, by kernel_rfl, by kernel_rfl⟩
  | b, [_, _, _], _, _ => by cases b <;> exact ⟨by kernel_rfl, by kernel_rfl, by kernel_rfl, by kernel_rfl⟩
  | b, [_, _, _, _], _, _ => by cases b <;> exact ⟨by kernel_rfl, by kernel_rfl, by kernel_rfl, by kernel_rfl⟩
  | b, [_, _, _, _, _], _, _ => by cases b <;> exact ⟨by kernel_rfl, by kernel_rfl, by kernel_rfl, by kernel_rfl⟩
  | b, [_, _, _, _, _, _], _, _ => by cases b <;> exact ⟨by kernel_rfl, by kernel_rfl, by kernel_rfl, by kernel_rfl⟩
  | _, _ :: _ :: _ :: _ :: _ :: _ :: _ :: _, _, h => by simp at h; omega
theorem edg_id {v : Int} (h : 0 ≤ v ∧ v < 100) : 0 + edg v = v := by
  unfold edg
  omega
theorem fn_edg {cs : List (Int × Int)} (h : ∀ c ∈ cs, (0 ≤ c.1 ∧ c.1 < 100) ∧ 0 ≤ c.2 ∧ c.2 < 100) : fnE cs = cs := by
  unfold fnE
  conv => rhs; rw [← List.map_id cs]
  exact List.map_congr_left fun c hc => by rw [edg_id (h c hc).1, edg_id (h c hc).2]; rfl
theorem fn_N : ∀ k < 7, Ris (fnN k) ∧ ∀ x ∈ fnN k, 0 < x := by decide
theorem fn_held {b : Bool} {cs : List (Int × Int)} {ys : List Int} (h1 : 1 ≤ cs.length) (h2 : cs.length < 7) (hr : Ris ys) (hm : ∀ x, x ∈ ys ↔ 0 < x ∧ x ∈ hldL (fnZ b cs)) : ys.length = cs.length + 1 := by
  obtain ⟨c1, c2⟩ := fn_N cs.length h2
  rw [ris_ext hr c1 (fun x => ?_)]
  · simp [fnN]
  · rw [hm, (fn_end b cs h1 h2).2.2.2]
    exact ⟨fun h => h.2, fun h => ⟨c2 x h, h⟩⟩
end Go.Proofs.YtdgknofpkafppaaDoor
