/- A client's objects as a function of their numbers, and the map that holds them; no walk. -/
import Derived.Test.YtaeeheaghfehaaaDoorLibE
import Derived.Maps.OwnSet
import Derived.Maps.Range
import Derived.Lib.SlKeysI
namespace Go.Proofs.YtaeeheaghfehaaaDoor
open Go Go.RowKit

/-- How an object (a struct of two numbers) reads. -/
def objR : Value → Option (DataW Unit × List MemPlace)
  | .agg cs => match cs.toList with
    | [.int .i64 f, .int .i64 v] => some (.agg [.lit (.int .i64 f), .lit (.int .i64 v)], [])
    | _ => none
  | _ => none

def dat (q : Int × Int) : DataW Unit := .agg [.lit (.int .i64 q.1), .lit (.int .i64 q.2)]
def obv (q : Int × Int) : Value := .agg #[.int .i64 q.1, .int .i64 q.2]

theorem objR_mk (q : Int × Int) : objR (obv q) = some (dat q, []) := rfl
theorem objR_inv {x : Value} {q : Int × Int} {ps : List MemPlace} (h : objR x = some (dat q, ps)) : x = obv q := by
  unfold objR at h
  split at h
  · rename_i cs
    split at h
    · rename_i f v he
      simp only [Option.some.injEq, Prod.mk.injEq, dat, DataW.agg.injEq, List.cons.injEq, DataW.lit.injEq, Lit.int.injEq, true_and, and_true] at h
      obtain ⟨⟨rfl, rfl⟩, _⟩ := h
      have : cs = #[.int .i64 q.1, .int .i64 q.2] := by
        apply Array.ext'
        rw [he]
      rw [this]
      rfl
    · cases h
  · cases h

/-- What is there: an interface 0 is none. -/
def Rep (D : DataW Unit) (s : Int → Int × Int) : Prop := ∀ k : Int, Maps.has D (.int .i64 k) = decide ((s k).1 ≠ 0) ∧ D.atKey (.int .i64 k) (dat (0, 0)) = dat (s k)

def upd (s : Int → Int × Int) (k : Int) (q : Int × Int) : Int → Int × Int := fun x => if x = k then q else s x

theorem upd_same (s : Int → Int × Int) (k : Int) (q : Int × Int) : upd s k q k = q := by simp [upd]
theorem upd_other (s : Int → Int × Int) {k x : Int} (h : x ≠ k) (q : Int × Int) : upd s k q x = s x := by simp [upd, h]

theorem key_ne {x k : Int} (h : x ≠ k) : Lit.int .i64 x ≠ Lit.int .i64 k := by simpa using h

theorem isKey (k : Int) : WideAt.IsKeyLit (.int .i64 k) := trivial

theorem Rep.put {D : DataW Unit} {s : Int → Int × Int} (h : Rep D s) (hm : Maps.IsMap D) (k : Int) (q : Int × Int) (hq : q.1 ≠ 0) : Rep (D.put (.int .i64 k) (dat q)) (upd s k q) := fun x => by
  by_cases hx : x = k
  · subst hx
    rw [upd_same, Maps.has_put_same hm (isKey _), Maps.atKey_put_same hm (isKey _), decide_eq_true hq]
    exact ⟨rfl, rfl⟩
  · rw [upd_other s hx, Maps.has_put_other (key_ne hx), Maps.atKey_put_other (key_ne hx)]
    exact h x

theorem Rep.del {D : DataW Unit} {s : Int → Int × Int} (h : Rep D s) (k : Int) : Rep (D.del (.int .i64 k)) (upd s k (0, 0)) := fun x => by
  by_cases hx : x = k
  · subst hx
    rw [upd_same, Maps.has_del_same, Maps.atKey_del_same]
    exact ⟨rfl, rfl⟩
  · rw [upd_other s hx, Maps.has_del_other (key_ne hx), Maps.atKey_del_other (key_ne hx)]
    exact h x

theorem rep_empty : Rep (.map []) (fun _ => (0, 0)) := fun _ => ⟨rfl, rfl⟩

/-- What is there lies from 1 to 255, of an interface from 1 to 17. -/
structure Gd (s : Int → Int × Int) : Prop where
  dom : ∀ k, (s k).1 ≠ 0 → 1 ≤ k ∧ k ≤ 255
  zero : ∀ k, (s k).1 = 0 → s k = (0, 0)
  pos : ∀ k, 0 ≤ (s k).1 ∧ (s k).1 ≤ 17

theorem Gd.upd {s : Int → Int × Int} (h : Gd s) {k : Int} (hk : 1 ≤ k ∧ k ≤ 255) {q : Int × Int} (hq : 1 ≤ q.1 ∧ q.1 ≤ 17) : Gd (upd s k q) := by
  refine ⟨fun x hx => ?_, fun x hx => ?_, fun x => ?_⟩
  all_goals by_cases e : x = k
  · rw [e]; exact hk
  · rw [upd_other s e] at hx; exact h.dom x hx
  · rw [e, upd_same] at hx; omega
  · rw [upd_other s e] at hx ⊢; exact h.zero x hx
  · rw [e, upd_same]; omega
  · rw [upd_other s e]; exact h.pos x

theorem Gd.del {s : Int → Int × Int} (h : Gd s) (k : Int) : Gd (Go.Proofs.YtaeeheaghfehaaaDoor.upd s k (0, 0)) := by
  refine ⟨fun x hx => ?_, fun x hx => ?_, fun x => ?_⟩
  all_goals by_cases e : x = k
  · rw [e, upd_same] at hx; exact absurd rfl hx
  · rw [upd_other s e] at hx; exact h.dom x hx
  · rw [e, upd_same]
  · rw [upd_other s e] at hx ⊢; exact h.zero x hx
  · rw [e, upd_same]; decide
  · rw [upd_other s e]; exact h.pos x

/-- A table with the display. -/
def s0 : Int → Int × Int := upd (fun _ => (0, 0)) 1 (1, 1)
theorem gd0 : Gd s0 := Gd.upd ⟨fun k h => absurd rfl h, fun _ _ => rfl, fun _ => by decide⟩ (by decide) (by decide)

/-! The numbers, rising. -/
def idl : List Int := (List.range 255).map fun i => ((i + 1 : Nat) : Int)
def keysOf (s : Int → Int × Int) : List Int := idl.filter fun k => decide ((s k).1 ≠ 0)

theorem mem_idl {x : Int} : x ∈ idl ↔ 1 ≤ x ∧ x ≤ 255 := by
  simp only [idl, List.mem_map, List.mem_range]
  constructor
  · rintro ⟨i, hi, rfl⟩
    omega
  · intro h
    exact ⟨(x - 1).toNat, by omega, by omega⟩
theorem idl_rising : idl.Pairwise (· < ·) := by
  rw [idl, List.pairwise_map]
  exact List.pairwise_lt_range.imp (fun h => by omega)
theorem idl_len : idl.length = 255 := by simp [idl]

theorem mem_keysOf {s : Int → Int × Int} (h : Gd s) {x : Int} : x ∈ keysOf s ↔ (s x).1 ≠ 0 := by
  rw [keysOf, List.mem_filter, mem_idl, decide_eq_true_eq]
  exact ⟨fun h => h.2, fun hx => ⟨h.dom x hx, hx⟩⟩
theorem keysOf_rising (s : Int → Int × Int) : (keysOf s).Pairwise (· < ·) := idl_rising.filter _
theorem keysOf_len (s : Int → Int × Int) : (keysOf s).length ≤ 255 := by
  rw [← idl_len]
  exact List.length_filter_le _ _

variable {P : Program} {kt : TypeId} {w : World} {b n : Nat} {D : DataW Unit} {s : Int → Int × Int}

theorem keys_perm' (h : w.ownsMap P kt objR b n D) (hk : P.underlying kt = some (.int .i64)) (hR : Rep D s) (hg : Gd s) : (keysOf s).Perm (intKeys D) := by
  have hC : CollectedI D (fun _ => false) (keysOf s) := ⟨(keysOf_rising s).imp (fun h => by omega), fun x => by
    rw [mem_keysOf hg, (hR x).1, decide_eq_true_eq]
    simp⟩
  exact hC.perm h (Maps.int_keyed hk) hk (fun _ => rfl)

theorem size_of_keys (h : w.ownsMap P kt objR b n D) (hk : P.underlying kt = some (.int .i64)) (hR : Rep D s) (hg : Gd s) : Maps.size D = (keysOf s).length := by
  rw [(keys_perm' h hk hR hg).length_eq]
  obtain ⟨es, rfl, _⟩ := h.entries (Maps.int_keyed hk)
  simp [intKeys, Maps.size]

/-- The bound of a map that holds such keys. -/
theorem tight (h : w.ownsMap P kt objR b n D) (hk : P.underlying kt = some (.int .i64)) (hR : Rep D s) (hg : Gd s) : w.ownsMap P kt objR b 255 D := by
  have e1 := size_of_keys h hk hR hg
  have e2 := keysOf_len s
  obtain ⟨es, clock, hb, F, hs, rfl⟩ := h
  refine ⟨es, clock, hb, F, ?_, rfl⟩
  rw [← e1] at e2
  simpa [Maps.size, length_sorted] using e2

/-- Sorted they are those. -/
theorem sorted_keys (h : w.ownsMap P kt objR b n D) (hk : P.underlying kt = some (.int .i64)) (hR : Rep D s) (hg : Gd s) {ss : List Int} (hp : ss.Perm (intKeys D)) : ss.mergeSort leI = keysOf s := by
  have h2 := mergeSort_of_perm_i (hp.trans (keys_perm' h hk hR hg).symm)
  rw [h2]
  refine List.mergeSort_of_pairwise ?_
  exact (keysOf_rising s).imp (fun h => by simp only [leI, decide_eq_true_eq]; omega)

end Go.Proofs.YtaeeheaghfehaaaDoor
