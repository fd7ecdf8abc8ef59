/- The contract of the program's wire.Get. -/
import Derived.Test.YtoggnfadfocogaaDoorWireH
import Derived.Lib.ConvBytes
namespace Go.Proofs.YtoggnfadfocogaaDoor
open Go Go.RowKit

def gaE (l : List UInt8) (p z : Nat) : Nat := if rdE l p z ≠ 0 then rdE l p z else if suchB z (rdN l p z) (rdS l p z) then 0 else 3
def gaA (l : List UInt8) (p z : Nat) : AV := if gaE l p z = 0 then ⟨z, rdN l p z, ⟨(rdS l p z).toArray⟩⟩ else ⟨0, 0, ⟨#[]⟩⟩
def gaX (l : List UInt8) (p z : Nat) : Nat := if gaE l p z = 0 then rdX l p z else 0

theorem txtS_le (l : List UInt8) (p : Int) : (txtS l p).length ≤ l.length := by
  unfold txtS
  split
  · have := lstS_le l p
    rw [List.length_dropLast]; omega
  · exact Nat.zero_le _

theorem rdS_le (l : List UInt8) (p : Int) (z : Nat) : (rdS l p z).length ≤ l.length := by
  unfold rdS
  split
  · exact Nat.zero_le _
  · split
    · exact txtS_le l p
    · split
      · exact lstS_le l p
      · exact Nat.zero_le _

theorem getArg_any (w : World) (a : Option Addr) (n c : Nat) (l : List UInt8) (hr : Rd w a n c l) (hn : n ≤ 1000000) (es : List Addr) (hE : E4 w es) (p : Nat) (hp : p ≤ 1000000) (z : Nat) :
    Calls Tryd.prog 30 #[.slice a n c, .int .i64 p, .int .u8 z] w fun e w' => e = .returned (.tuple #[.agg #[.int .u8 (gaA l p z).k, .int .i64 (gaA l p z).n, .string (gaA l p z).s], .int .i64 (gaX l p z : Nat), erv es (gaE l p z)]) ∧ Below w.heap.size w w' := by
  have hl := hr.len
  have hs := rdS_le l p z
  have H := readArg_any (wA w) a n c l (hr.below (wA_below w) (rd_low hr)) (by omega) es (hE.below (wA_below w)) p hp z
  by_cases h0 : rdE l p z = 0
  · rw [h0] at H
    cases hk : suchB z (rdN l p z) (rdS l p z) with
    | true =>
      have e1 : gaE l p z = 0 := by rw [gaE, if_neg (by rw [h0]; decide), hk]; rfl
      have e2 : gaA l p z = ⟨z, rdN l p z, ⟨(rdS l p z).toArray⟩⟩ := by rw [gaA, if_pos e1]
      have e3 : gaX l p z = rdX l p z := by rw [gaX, if_pos e1]
      rw [e1, e2, e3]
      exact getArg_ok w a n c p z _ _ (by omega) _ es hE hk H
    | false =>
      have e1 : gaE l p z = 3 := by rw [gaE, if_neg (by rw [h0]; decide), hk]; rfl
      have e2 : gaA l p z = ⟨0, 0, ⟨#[]⟩⟩ := by rw [gaA, if_neg (by rw [e1]; decide)]
      have e3 : gaX l p z = 0 := by rw [gaX, if_neg (by rw [e1]; decide)]
      rw [e1, e2, e3]
      exact getArg_bad w a n c p z _ _ (by omega) _ es hE hk H
  · have e1 : gaE l p z = rdE l p z := by rw [gaE, if_pos h0]
    have e2 : gaA l p z = ⟨0, 0, ⟨#[]⟩⟩ := by rw [gaA, if_neg (by rw [e1]; exact h0)]
    have e3 : gaX l p z = 0 := by rw [gaX, if_neg (by rw [e1]; exact h0)]
    rw [e1, e2, e3]
    obtain ⟨m, hm⟩ : ∃ m, rdE l p z = m + 1 := ⟨rdE l p z - 1, by omega⟩
    rw [hm] at H ⊢
    exact getArg_err w a n c p z _ _ _ _ H

/-- '[]byte(t)'. -/
theorem bytes_of (t : ByteArray) (ht : t.size ≤ 1000000) (W : World) : ∃ c W', (convert 9 27 (.string t)).run Tryd.prog W = .ok (.slice (some ⟨W.heap.size, 0, none⟩) t.size c) W' ∧ Rd W' (some ⟨W.heap.size, 0, none⟩) t.size c t.data.toList ∧ Below W.heap.size W W' ∧ W'.heap.size = W.heap.size + 1 := by
  refine ⟨_, _, Lib.run_convert_string_bytes W 9 27 5 t Tryd.underlying9 Tryd.underlying27 Tryd.underlying5, ?_, ?_, Lib.bytesWorld_size W 5 t⟩
  · have hge := grownCap_ge W t.size 0 5
    refine ⟨size_toList t, hge, grownCap_le_maxLen W t.size 0 5 (by simp only [maxLen]; omega), (fun h => by cases h), fun x hx j u hu => ?_⟩
    cases hx
    have hj : j < t.size := by
      rcases Nat.lt_or_ge j t.size with h' | h'
      · exact h'
      · rw [List.getElem?_eq_none (by rw [bc_length, size_toList]; exact h')] at hu; cases hu
    rw [Go.WideShapes.add_plain, Nat.zero_add, Lib.bytesWorld_cell W 5 t j hj, ← hu, bc, List.getElem?_map, List.getD]
    have hl : j < t.data.toList.length := by rw [size_toList]; exact hj
    rw [List.getElem?_eq_getElem hl]
    rfl
  · exact ⟨rfl, rfl, rfl, by rw [Lib.bytesWorld_size]; omega, fun k hk => Lib.bytesWorld_at_old W 5 t k hk⟩

/-! What Get gets. -/
def gets (b : List UInt8) : Nat → List UInt8 → Nat × List AV × Nat
  | p, [] => (0, [], p)
  | p, z :: s => if gaE b p z.toNat = 0 then ((gets b (gaX b p z.toNat) s).1, gaA b p z.toNat :: (gets b (gaX b p z.toNat) s).2.1, (gets b (gaX b p z.toNat) s).2.2) else (gaE b p z.toNat, [], 0)

def gotE (o q : Int) (b s : List UInt8) : Nat := if (gets b 0 s).1 ≠ 0 then (gets b 0 s).1 else if (gets b 0 s).2.2 < b.length then 3 else noB (chk o q (gets b 0 s).2.1 s)
def gotL (o q : Int) (b s : List UInt8) : List AV := if gotE o q b s = 0 then (gets b 0 s).2.1 else []
def gotO (o q : Int) (b s : List UInt8) : Int := if gotE o q b s = 0 then o else 0
def gotQ (o q : Int) (b s : List UInt8) : Int := if gotE o q b s = 0 then q else 0

theorem getE_le {l : List UInt8} {p : Nat} (h : getE l p = 0) : p + 4 ≤ l.length := by
  unfold getE at h
  split at h
  · cases h
  · split at h
    · cases h
    · omega

theorem lstN_le {l : List UInt8} {p : Nat} (h : lstE l p = 0) : lstN l p ≤ l.length := by
  rw [lstN, if_pos h]
  unfold lstE at h
  split at h
  · rename_i hg; exact absurd h hg
  · rename_i hg
    have := getE_le (l := l) (p := p) (Classical.byContradiction hg)
    split at h
    · cases h
    · split at h
      · cases h
      · rw [Int.toNat_natCast]; omega

theorem txtE_zero {l : List UInt8} {p : Int} (h : txtE l p = 0) : lstE l p = 0 ∧ ended (lstS l p) = true := by
  unfold txtE at h
  split at h
  · rename_i hg; exact absurd h hg
  · rename_i hg
    split at h
    · rename_i he; exact ⟨Classical.byContradiction hg, he⟩
    · cases h

theorem gaE_zero {l : List UInt8} {p z : Nat} (h : gaE l p z = 0) : rdE l p z = 0 ∧ suchB z (rdN l p z) (rdS l p z) = true := by
  unfold gaE at h
  split at h
  · rename_i hg; exact absurd h hg
  · rename_i hg
    split at h
    · rename_i he; exact ⟨Classical.byContradiction hg, he⟩
    · cases h

theorem rdX_le {l : List UInt8} {p z : Nat} (h : rdE l p z = 0) : rdX l p z ≤ l.length := by
  unfold rdE at h
  unfold rdX
  split at h
  · rename_i hz; rw [if_pos hz]; exact getE_le h
  · rename_i hz
    rw [if_neg hz]
    split at h
    · rename_i h1
      rw [if_pos h1, txtN, if_pos h]
      exact lstN_le (txtE_zero h).1
    · rename_i h1
      rw [if_neg h1]
      split at h
      · rename_i h2; rw [if_pos h2]; exact lstN_le h
      · cases h

theorem gaX_le {l : List UInt8} {p z : Nat} (h : gaE l p z = 0) : gaX l p z ≤ l.length := by
  rw [gaX, if_pos h]
  exact rdX_le (gaE_zero h).1

theorem sgn_range (v : Nat) (h : v < 4294967296) : -2147483648 ≤ sgn v ∧ sgn v ≤ 2147483647 := by
  unfold sgn
  split <;> omega

theorem numZ_range (z v : Nat) (h : v < 4294967296) : -2147483648 ≤ numZ z v ∧ numZ z v ≤ 4294967295 := by
  have := sgn_range v h
  unfold numZ
  split <;> omega

theorem gaA_ok (l : List UInt8) (p z : Nat) (hz : z < 256) (hl : l.length ≤ 1000000) : (gaA l p z).Ok ∧ (gaA l p z).s.size ≤ 1000000 := by
  unfold gaA
  split
  · have hs := rdS_le l p z
    have hn : -2147483648 ≤ rdN l p z ∧ rdN l p z ≤ 4294967295 := by
      unfold rdN
      split
      · exact numZ_range z _ (getV_lt _ _)
      · omega
    exact ⟨⟨hz, by show _ ≤ rdN l p z; omega, by show rdN l p z ≤ _; omega, by show (rdS l p z).length ≤ maxLen; simp only [maxLen]; omega⟩, by show (rdS l p z).length ≤ _; omega⟩
  · exact ⟨⟨by decide, by decide, by decide, by decide⟩, by decide⟩
end Go.Proofs.YtoggnfadfocogaaDoor
