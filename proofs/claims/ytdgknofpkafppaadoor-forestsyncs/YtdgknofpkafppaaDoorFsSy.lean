/- A line of surfaces, each in the one ahead: some committed and waiting. No program. -/
import Derived.Test.YtdgknofpkafppaaDoorBg
import Derived.Test.YtdgknofpkafppaaDoorBh
namespace Go.Proofs.YtdgknofpkafppaaDoor
open Go Go.RowKit

/-- What a surface of a line of k is to have. -/
def sn0 (k i : Nat) : Sq := ⟨true, 10 * ((i : Nat) : Int), [], [], false, false, [], decide (i < k), if i < k then [[0], [((i + 1 : Nat) : Int)]] else [], if i < k then [[((i + 1 : Nat) : Int), 0, 0]] else []⟩
def snS (k i : Nat) (c : Bool) : Sf := ⟨((i - 1 : Nat) : Int), decide (1 < i), bif c then sq0 else sn0 k i, bif c then sn0 k i else sq0, sqA⟩
def snG (k : Nat) : Nat → List Bool → Fo
  | _, [] => []
  | i, c :: l => (((i : Nat) : Int), snS k i c) :: snG k (i + 1) l
/-- The line: which of them wait. -/
def snl (cs : List Bool) : Fo := snG cs.length 1 cs
def sna (k : Nat) : Fo := snl (List.replicate k false)
def snz (k : Nat) : Fo := snl (false :: List.replicate (k - 1) true)
theorem sn_1 : addE (sna 0) 1 = 0 ∧ hasE (addF (sna 0) 1) 1 = 0 := by decide
theorem sn_1' : upd (addF (sna 0) 1) 1 (attS 10) = sna 1 := by rfl
theorem sn_add : ∀ j < 7, addE (sna j) ((j + 1 : Nat) : Int) = 0 := by decide
theorem sn_sub : ∀ j < 7, 0 < j → subEB (addF (sna j) ((j + 1 : Nat) : Int)) ((j + 1 : Nat) : Int) ((j : Nat) : Int) = 0 ∧ hasE (subFB (addF (sna j) ((j + 1 : Nat) : Int)) ((j + 1 : Nat) : Int) ((j : Nat) : Int)) ((j + 1 : Nat) : Int) = 0 := by decide
theorem sn_att : ∀ j < 7, 0 < j → upd (subFB (addF (sna j) ((j + 1 : Nat) : Int)) ((j + 1 : Nat) : Int) ((j : Nat) : Int)) ((j + 1 : Nat) : Int) (attS (10 * ((j + 1 : Nat) : Int))) = sna (j + 1) := by
  intro j h1 h2
  obtain rfl | rfl | rfl | rfl | rfl | rfl : j = 1 ∨ j = 2 ∨ j = 3 ∨ j = 4 ∨ j = 5 ∨ j = 6 := by omega
  all_goals rfl
theorem sn_com : ∀ (cs : List Bool) (i : Nat), cs.length ≤ 7 → 2 ≤ i → i ≤ cs.length → hasE (snl cs) ((i : Nat) : Int) = 0 ∧ comB (snl cs) ((i : Nat) : Int) = (snl (cs.set (i - 1) true), []) ∧ (((gt (snl (cs.set (i - 1) true)) ((i : Nat) : Int)).map Sf.no).getD sq0).buf = 0
  | [], i, _, _, _ => by simp at *; omega
  | [_], i, _, _, _ => by simp at *; omega
  | [a, b], i, _, _, h => by
    simp only [List.length_cons, List.length_nil] at h
    obtain rfl : i = 2 := by omega
    cases b <;> exact ⟨rfl, rfl, rfl⟩
  | [a, b, c], i, _, _, h => by
    simp only [List.length_cons, List.length_nil] at h
    obtain rfl | rfl : i = 2 ∨ i = 3 := by omega
    · cases b <;> exact ⟨rfl, rfl, rfl⟩
    · cases c <;> exact ⟨rfl, rfl, rfl⟩
  | [a, b, c, d], i, _, _, h => by
    simp only [List.length_cons, List.length_nil] at h
    obtain rfl | rfl | rfl : i = 2 ∨ i = 3 ∨ i = 4 := by omega
    · cases b <;> exact ⟨rfl, rfl, rfl⟩
    · cases c <;> exact ⟨rfl, rfl, rfl⟩
    · cases d <;> exact ⟨rfl, rfl, rfl⟩
  | [a, b, c, d, e], i, _, _, h => by
    simp only [List.length_cons, List.length_nil] at h
    obtain rfl | rfl | rfl | rfl : i = 2 ∨ i = 3 ∨ i = 4 ∨ i = 5 := by omega
    · cases b <;> exact ⟨rfl, rfl, rfl⟩
    · cases c <;> exact ⟨rfl, rfl, rfl⟩
    · cases d <;> exact ⟨rfl, rfl, rfl⟩
    · cases e <;> exact ⟨rfl, rfl, rfl⟩
  | [a, b, c, d, e, f], i, _, _, h => by
    simp only [List.length_cons, List.length_nil] at h
    obtain rfl | rfl | rfl | rfl | rfl : i = 2 ∨ i = 3 ∨ i = 4 ∨ i = 5 ∨ i = 6 := by omega
    · cases b <;> exact ⟨rfl, rfl, rfl⟩
    · cases c <;> exact ⟨rfl, rfl, rfl⟩
    · cases d <;> exact ⟨rfl, rfl, rfl⟩
    · cases e <;> exact ⟨rfl, rfl, rfl⟩
    · cases f <;> exact ⟨rfl, rfl, rfl⟩
  | [a, b, c, d, e, f, g], i, _, _, h => by
    simp only [List.length_cons, List.length_nil] at h
    obtain rfl | rfl | rfl | rfl | rfl | rfl : i = 2 ∨ i = 3 ∨ i = 4 ∨ i = 5 ∨ i = 6 ∨ i = 7 := by omega
    · cases b <;> exact ⟨rfl, rfl, rfl⟩
    · cases c <;> exact ⟨rfl, rfl, rfl⟩
    · cases d <;> exact ⟨rfl, rfl, rfl⟩
    · cases e <;> exact ⟨rfl, rfl, rfl⟩
    · cases f <;> exact ⟨rfl, rfl, rfl⟩
    · cases g <;> exact ⟨rfl, rfl, rfl⟩
  | _ :: _ :: _ :: _ :: _ :: _ :: _ :: _ :: _, _, h, _, _ => by simp at h
/-- Who waits: the first one does not; all from n on do. -/
def Wai (k n : Nat) (cs : List Bool) : Prop := cs.length = k ∧ cs[0]? = some false ∧ ∀ j, n ≤ j → j < k → cs[j]? = some true
theorem Wai.set {k n i : Nat} {cs : List Bool} (h : Wai k n cs) (hi : 2 ≤ i) : Wai k n (cs.set (i - 1) true) := by
  obtain ⟨h1, h2, h3⟩ := h
  refine ⟨by rw [List.length_set]; exact h1, by rw [List.getElem?_set_ne (by omega)]; exact h2, fun j a b => ?_⟩
  rw [List.getElem?_set]
  split
  · rw [if_pos (by omega)]
  · exact h3 j a b
theorem Wai.less {k n : Nat} {cs : List Bool} (h : Wai k (n + 1) cs) (hn : 1 ≤ n) : Wai k n (cs.set n true) := by
  obtain ⟨h1, h2, h3⟩ := h
  refine ⟨by rw [List.length_set]; exact h1, by rw [List.getElem?_set_ne (by omega)]; exact h2, fun j a b => ?_⟩
  rw [List.getElem?_set]
  split
  · rw [if_pos (by omega)]
  · exact h3 j (by omega) b
theorem Wai.all {k : Nat} {cs : List Bool} (h : Wai k 1 cs) (hk : 1 ≤ k) : cs = false :: List.replicate (k - 1) true := by
  obtain ⟨h1, h2, h3⟩ := h
  refine List.ext_getElem? fun j => ?_
  rcases j with - | j
  · exact h2
  · rw [List.getElem?_cons_succ, List.getElem?_replicate]
    split
    · exact h3 _ (by omega) (by omega)
    · exact List.getElem?_eq_none (by omega)
theorem wai_rep (k : Nat) (hk : 1 ≤ k) : Wai k k (List.replicate k false) := ⟨by simp, by rw [List.getElem?_replicate, if_pos (by omega)], fun j a b => by omega⟩
theorem sn_wlk : ∀ k < 8, 2 ≤ k → (wlk (snz k) 41 1 0 0).length = 0 ∧ hasE (snz k) 1 = 0 := by decide
/-- Behind the commit of the first one. -/
def sne (k : Nat) : Fo := (comB (snz k) 1).1
theorem sn_end : ∀ k < 8, 2 ≤ k → (comB (snz k) 1).2 = (List.range k).map (fun i => ((i + 1 : Nat) : Int)) ∧ (wlk (sne k) 41 1 0 0).length = k := by decide
theorem sn_cur : ∀ k < 8, 2 ≤ k → ∀ i < k, (((gt (sne k) ((i + 1 : Nat) : Int)).map Sf.no).getD sq0).buf = 10 * ((i + 1 : Nat) : Int) ∧ syB 40 (sne k) ((i + 1 : Nat) : Int) = decide (0 < i) := by decide
def snh (k : Nat) : List Int := (List.range (k - 1)).map fun i => 10 * ((i + 2 : Nat) : Int)
theorem sn_hld : ∀ k < 8, 2 ≤ k → (∀ x ∈ hldL (snz k), x = 0 ∨ x ∈ snh k) ∧ (∀ x ∈ snh k, 0 < x ∧ x ∈ hldL (snz k)) ∧ Ris (snh k) := by decide
theorem sn_held {k : Nat} {ys : List Int} (h1 : k < 8) (h2 : 2 ≤ k) (hr : Ris ys) (hm : ∀ x, x ∈ ys ↔ 0 < x ∧ x ∈ hldL (snz k)) : ys.length = k - 1 := by
  obtain ⟨a, b, c⟩ := sn_hld k h1 h2
  rw [ris_ext hr c (fun x => ?_)]
  · simp [snh]
  · rw [hm]
    constructor
    · intro h
      rcases a x h.2 with e | e
      · omega
      · exact e
    · exact b x
end Go.Proofs.YtdgknofpkafppaaDoor
