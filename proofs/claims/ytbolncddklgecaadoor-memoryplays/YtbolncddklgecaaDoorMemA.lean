/- Memories as a function of their keys, and the map that holds them; no walk. -/
import Derived.Test.YtbolncddklgecaaDoorLibE
import Derived.Test.YtbolncddklgecaaDoorLibK
import Derived.Test.YtbolncddklgecaaDoorLibA
import Derived.Maps.OwnSet
import Derived.Maps.OwnOps
import Derived.Maps.Range
import Derived.Lib.SlKeysI
import Derived.Lib.Builder
namespace Go.Proofs.YtbolncddklgecaaDoor
open Go Go.RowKit

/-- A memory: the block that has its bytes, and these. -/
abbrev Mo := Option (Nat × List UInt8)

/-- Its bytes. -/
def by_ : Mo → List UInt8
  | none => []
  | some q => q.2

/-- As a value. -/
def slv : Mo → Value
  | none => .slice none 0 0
  | some q => .slice (some ⟨q.1, 0, none⟩) q.2.length q.2.length

def dtm : Mo → DataW Unit
  | none => .nil
  | some q => .agg [.lit (.int .i64 q.1), .lit (.int .i64 q.2.length)]

def slR : Value → Option (DataW Unit × List MemPlace)
  | .slice none 0 0 => some (.nil, [])
  | .slice (some ⟨g, 0, none⟩) n c => if n = c then some (.agg [.lit (.int .i64 g), .lit (.int .i64 n)], []) else none
  | _ => none

theorem slR_mk (q : Mo) : slR (slv q) = some (dtm q, []) := by
  cases q with
  | none => rfl
  | some q => simp [slR, slv, dtm]

theorem slR_inv {x : Value} {q : Mo} {ps : List MemPlace} (h : slR x = some (dtm q, ps)) : x = slv q := by
  unfold slR at h
  split at h
  · cases q with
    | none => rfl
    | some q => simp [dtm] at h
  · rename_i g n c
    split at h
    · rename_i e
      subst e
      cases q with
      | none => simp [dtm] at h
      | some q =>
        simp only [dtm, Option.some.injEq, Prod.mk.injEq, DataW.agg.injEq, List.cons.injEq, DataW.lit.injEq, Lit.int.injEq, true_and, and_true] at h
        obtain ⟨⟨h1, h2⟩, _⟩ := h
        have e1 : g = q.1 := by omega
        have e2 : n = q.2.length := by omega
        rw [e1, e2]
        rfl
    · cases h
  · cases h

/-- What is there. -/
def Mep (D : DataW Unit) (s : Int → Mo) : Prop := ∀ k : Int, Maps.has D (.int .i64 k) = (s k).isSome ∧ D.atKey (.int .i64 k) .nil = dtm (s k)

def mupd (s : Int → Mo) (k : Int) (q : Mo) : Int → Mo := fun x => if x = k then q else s x

theorem mupd_same (s : Int → Mo) (k : Int) (q : Mo) : mupd s k q k = q := by simp [mupd]
theorem mupd_other (s : Int → Mo) {k x : Int} (h : x ≠ k) (q : Mo) : mupd s k q x = s x := by simp [mupd, h]

theorem key_ne {x k : Int} (h : x ≠ k) : Lit.int .i64 x ≠ Lit.int .i64 k := by simpa using h
theorem isKey (k : Int) : WideAt.IsKeyLit (.int .i64 k) := trivial

theorem Mep.put {D : DataW Unit} {s : Int → Mo} (h : Mep D s) (hm : Maps.IsMap D) (k : Int) (q : Nat × List UInt8) : Mep (D.put (.int .i64 k) (dtm (some q))) (mupd s k (some q)) := fun x => by
  by_cases hx : x = k
  · subst hx
    rw [mupd_same, Maps.has_put_same hm (isKey _), Maps.atKey_put_same hm (isKey _)]
    exact ⟨rfl, rfl⟩
  · rw [mupd_other s hx, Maps.has_put_other (key_ne hx), Maps.atKey_put_other (key_ne hx)]
    exact h x

theorem mep_empty : Mep (.map []) (fun _ => none) := fun _ => ⟨rfl, rfl⟩

/-- What is there has a key from 1 to 255. -/
def Mdom (s : Int → Mo) : Prop := ∀ k, (s k).isSome = true → 1 ≤ k ∧ k ≤ 255

theorem Mdom.upd {s : Int → Mo} (h : Mdom s) {k : Int} (hk : 1 ≤ k ∧ k ≤ 255) (q : Mo) : Mdom (mupd s k q) := fun x hx => by
  by_cases e : x = k
  · rw [e]; exact hk
  · rw [mupd_other s e] at hx; exact h x hx

/-! The keys, rising. -/
def idl : List Int := (List.range 255).map fun i => ((i + 1 : Nat) : Int)
def mkeys (s : Int → Mo) : List Int := idl.filter fun k => (s k).isSome

theorem mem_idl {x : Int} : x ∈ idl ↔ 1 ≤ x ∧ x ≤ 255 := by
  simp only [idl, List.mem_map, List.mem_range]
  constructor
  · rintro ⟨i, hi, rfl⟩
    omega
  · intro h
    exact ⟨(x - 1).toNat, by omega, by omega⟩
theorem idl_rising : idl.Pairwise (· < ·) := by
  rw [idl, List.pairwise_map]
  exact List.pairwise_lt_range.imp (fun h => by omega)
theorem idl_len : idl.length = 255 := by simp [idl]

variable {P : Program} {kt : TypeId} {w : World} {b n : Nat} {D : DataW Unit} {s : Int → Mo}

theorem mkeys_perm (h : w.ownsMap P kt slR b n D) (hk : P.underlying kt = some (.int .i64)) (hR : Mep D s) (hg : Mdom s) : (mkeys s).Perm (intKeys D) := by
  have hC : CollectedI D (fun _ => false) (mkeys s) := ⟨(idl_rising.filter _).imp (fun h => by omega), fun x => by
    rw [mkeys, List.mem_filter, mem_idl, (hR x).1]
    constructor
    · intro h
      simp [h.2]
    · intro h
      simp only [and_true] at h
      exact ⟨hg x h, h⟩⟩
  exact hC.perm h (Maps.int_keyed hk) hk (fun _ => rfl)

/-- The bound of a map that holds such keys. -/
theorem mtight (h : w.ownsMap P kt slR b n D) (hk : P.underlying kt = some (.int .i64)) (hR : Mep D s) (hg : Mdom s) : w.ownsMap P kt slR b 255 D := by
  have e1 : Maps.size D = (mkeys s).length := by
    rw [(mkeys_perm h hk hR hg).length_eq]
    obtain ⟨es, rfl, _⟩ := h.entries (Maps.int_keyed hk)
    simp [intKeys, Maps.size]
  have e2 : (mkeys s).length ≤ 255 := by
    rw [← idl_len]
    exact List.length_filter_le _ _
  obtain ⟨es, clock, hb, F, hs, rfl⟩ := h
  refine ⟨es, clock, hb, F, ?_, rfl⟩
  rw [← e1] at e2
  simpa [Maps.size, length_sorted] using e2

/-! What the calls do to bytes. -/
/-- Of another size. -/
def rsz (l : List UInt8) (n : Nat) : List UInt8 := l.take n ++ List.replicate (n - l.length) 0
theorem rsz_length (l : List UInt8) (n : Nat) : (rsz l n).length = n := by
  rw [rsz, List.length_append, List.length_take, List.length_replicate]
  omega
/-- Written over. -/
def wro (l : List UInt8) (k : Nat) (b : List UInt8) : List UInt8 := l.take k ++ b ++ l.drop (k + b.length)
theorem wro_length {l : List UInt8} {k : Nat} {b : List UInt8} (h : k + b.length ≤ l.length) : (wro l k b).length = l.length := by
  rw [wro, List.length_append, List.length_append, List.length_take, List.length_drop]
  omega
/-- Is it there? -/
def inn (size at_ n : Int) : Bool := decide (0 ≤ at_) && (decide (0 ≤ n) && decide (at_ ≤ size - n))
/-- A byte. -/
def bt (l : List UInt8) (i : Int) : Nat := if i < 0 then 0 else (l.getD i.toNat 0).toNat
theorem bt_lt (l : List UInt8) (i : Int) : bt l i < 256 := by
  unfold bt
  split
  · omega
  · have := UInt8.toNat_lt (l.getD i.toNat 0); omega
/-- Four bytes. -/
def wd (l : List UInt8) (i : Int) : Nat := bt l i + bt l (i + 1) * 256 + bt l (i + 2) * 65536 + bt l (i + 3) * 16777216
theorem wd_lt (l : List UInt8) (i : Int) : wd l i < 4294967296 := by
  have := bt_lt l i
  have := bt_lt l (i + 1)
  have := bt_lt l (i + 2)
  have := bt_lt l (i + 3)
  unfold wd
  omega
theorem bt_far (l : List UInt8) (i : Int) (h : (l.length : Int) ≤ i) : bt l i = 0 := by
  unfold bt
  rw [if_neg (by omega), List.getD, List.getElem?_eq_none (by omega)]
  rfl
theorem wd_far (l : List UInt8) (i : Int) (h : (l.length : Int) ≤ i) : wd l i = 0 := by
  unfold wd
  rw [bt_far l i h, bt_far l (i + 1) (by omega), bt_far l (i + 2) (by omega), bt_far l (i + 3) (by omega)]
end Go.Proofs.YtbolncddklgecaaDoor
