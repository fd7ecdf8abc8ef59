/- What the tables hold, without the program: letters, lengths; the error that the row's list gives. -/
import Derived.Test.YtadklnjkkmfhdaaDoorSigD
namespace Go.Proofs.YtadklnjkkmfhdaaDoor
open Go Go.RowKit

theorem rqAt_mem {f o : Int} {x : List UInt8 × Int × Bool} (h : rqAt f o = some x) : ∃ k j : Nat, f = k ∧ o = j ∧ k < 18 ∧ (rqT.getD k [])[j]? = some x := by
  rw [rqAt] at h
  split at h
  · rename_i hc
    refine ⟨f.toNat, o.toNat, by omega, by omega, ?_, h⟩
    rcases Nat.lt_or_ge f.toNat 18 with h' | h'
    · exact h'
    · rw [getD_far rqT _ (by rw [rqT_len]; exact h')] at h
      cases h
  · cases h
theorem evAt_mem {f o : Int} {x : List UInt8} (h : evAt f o = some x) : ∃ k j : Nat, f = k ∧ o = j ∧ k < 18 ∧ (evT.getD k [])[j]? = some x := by
  rw [evAt] at h
  split at h
  · rename_i hc
    refine ⟨f.toNat, o.toNat, by omega, by omega, ?_, h⟩
    rcases Nat.lt_or_ge f.toNat 18 with h' | h'
    · exact h'
    · rw [getD_far evT _ (by rw [evT_len]; exact h')] at h
      cases h
  · cases h

def seven : List UInt8 := [105, 117, 102, 111, 110, 115, 97]

theorem rq_all7 : ∀ r ∈ rqT, ∀ x ∈ r, x.1.length ≤ 6 ∧ ∀ c ∈ x.1, c ∈ seven := by decide
theorem ev_all7 : ∀ r ∈ evT, ∀ x ∈ r, x.length ≤ 6 ∧ ∀ c ∈ x, c ∈ seven := by decide

theorem getD_mem {α : Type} {l : List (List α)} {k j : Nat} {x : α} (hk : k < l.length) (h : (l.getD k [])[j]? = some x) : ∃ r ∈ l, x ∈ r := by
  refine ⟨l.getD k [], ?_, List.mem_of_getElem? h⟩
  rw [List.getD, List.getElem?_eq_getElem hk]
  exact List.getElem_mem hk

theorem rqS_letters (f o : Int) : (rqS f o).length ≤ 6 ∧ ∀ c ∈ rqS f o, c ∈ seven := by
  rw [rqS]
  cases h : rqAt f o with
  | none => exact ⟨Nat.zero_le _, fun c hc => by cases hc⟩
  | some x =>
    obtain ⟨k, j, _, _, hk, hx⟩ := rqAt_mem h
    obtain ⟨r, hr, hxr⟩ := getD_mem hk hx
    exact rq_all7 r hr x hxr
theorem evS_letters (f o : Int) : (evS f o).length ≤ 6 ∧ ∀ c ∈ evS f o, c ∈ seven := by
  rw [evS]
  cases h : evAt f o with
  | none => exact ⟨Nat.zero_le _, fun c hc => by cases hc⟩
  | some x =>
    obtain ⟨k, j, _, _, hk, hx⟩ := evAt_mem h
    obtain ⟨r, hr, hxr⟩ := getD_mem hk hx
    exact ev_all7 r hr x hxr

/-- ErrMethod's variable holds a pointer. -/
def Meth (w : World) (a : Addr) : Prop := w.cell? ⟨0, 0, none⟩ = some (.iface 72 (.pointer (some a)))
theorem Meth.below {w w' : World} {a : Addr} (h : Meth w a) (hb : Below w.heap.size w w') : Meth w' a := by
  unfold Meth at h ⊢
  rw [hb.cell (World.block_lt_of_cell? w _ h)]
  exact h

def L1 : List (String × DataW Unit × Nat) := [("tableau/api.ErrMethod", Rows.laid_tableau_api_ErrMethod, 0)]
theorem meth_of {W : World} (h : laidMetH Tryd.prog (L1.map fun x => (x.1, x.2.1)) W) : ∃ a, Meth W a := by
  rw [MakeChecks.laidMetH_plain _ _ _ (by kernel_rfl)] at h
  obtain ⟨es, he⟩ := errs_of_laid L1 (fun x hx => by
    obtain rfl : x = ("tableau/api.ErrMethod", Rows.laid_tableau_api_ErrMethod, 0) := by simpa only [L1, List.mem_cons, List.not_mem_nil, or_false] using hx
    exact ⟨by kernel_rfl, by kernel_rfl, _, rfl⟩) h
  match es, he with
  | [a], he => exact ⟨a, (he.each 0 _ a rfl rfl).1⟩
  | [], he => cases he.len
  | _ :: _ :: _, he => cases he.len
end Go.Proofs.YtadklnjkkmfhdaaDoor
