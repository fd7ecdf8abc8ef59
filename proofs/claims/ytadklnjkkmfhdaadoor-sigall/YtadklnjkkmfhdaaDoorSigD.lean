/- sig.Face for any text; the law's own example (awake). -/
import Derived.Test.YtadklnjkkmfhdaaDoorSigC
namespace Go.Proofs.YtadklnjkkmfhdaaDoor
open Go Go.RowKit

/-- The interface of a name: the first place at which it stands, 0 where it stands nowhere. -/
def nameAt (s : ByteArray) (j : Nat) : Prop := (⟨(nmT.getD j []).toArray⟩ : ByteArray) = s
instance (s : ByteArray) (j : Nat) : Decidable (nameAt s j) := inferInstanceAs (Decidable (_ = _))
def faceOf (s : ByteArray) : Nat := ((List.range 18).find? fun j => decide (nameAt s j)).getD 0

theorem faceOf_at (s : ByteArray) (j : Nat) (hj : j < 18) (h : nameAt s j) (hb : ∀ m, m < j → ¬ nameAt s m) : faceOf s = j := by
  rw [faceOf]
  have : (List.range 18).find? (fun j => decide (nameAt s j)) = some j := by
    rw [List.find?_range_eq_some]
    exact ⟨by simpa using h, by simpa using hj, fun m hm => by simpa using hb m hm⟩
  rw [this]
  rfl
theorem faceOf_none (s : ByteArray) (hb : ∀ m, m < 18 → ¬ nameAt s m) : faceOf s = 0 := by
  rw [faceOf]
  have : (List.range 18).find? (fun j => decide (nameAt s j)) = none := by
    rw [List.find?_eq_none]
    intro x hx
    simpa using hb x (by simpa using hx)
  rw [this]
  rfl

theorem neq_toList {a b : ByteArray} (h : ¬ a = b) : (a.toList == b.toList) = false := by
  rw [ByteArray.toList_eq, ByteArray.toList_eq]
  refine beq_eq_false_iff_ne.2 fun e => h ?_
  obtain ⟨⟨x⟩⟩ := a
  obtain ⟨⟨y⟩⟩ := b
  obtain rfl : x = y := e
  rfl

theorem ret_i {a b : Int} (h : a = b) : Ending.returned (.int .i64 a) = .returned (.int .i64 b) := by rw [h]

set_option maxRecDepth 100000 in
theorem Face_any (s : ByteArray) (w : World) :
    Calls Tryd.prog 17 #[.string s] w fun e w' => e = .returned (.int .i64 (faceOf s : Nat)) ∧ Below w.heap.size w w' := by
  have HC : Hid (∀ u : World, Calls Tryd.prog 25 #[] u fun e w' => e = .returned (.agg (strs nmT).toArray) ∧ Below u.heap.size u w') := names_any
  have HI : Hid (∀ k : Nat, k < 18 → ∀ u : World, Sem.run Tryd.prog (Instr.index 49 (.agg (strs nmT).toArray) (.int .i64 (k : Int))) u = .ok (.string ⟨(nmT.getD k []).toArray⟩) u) := by
    intro k hk u
    refine idx_run 49 9 18 Tryd.underlying49 rfl (strs nmT).toArray k _ hk ?_ u
    rw [List.getElem?_toArray, strs, List.getElem?_map, List.getD, List.getElem?_eq_getElem (show k < nmT.length from hk)]
    rfl
  generalize (strs nmT).toArray = cs at *
  go_enter Tryd.func17, Tryd.ntmps17
  go_wp2_with (go_at_call 25; refine (HC.out _).mono ?_; rintro e w' ⟨rfl, hb⟩; have HB : Hid (Below w.heap.size w w') := hb; clear hb)
  go_loop [6] (fun i => ∃ j : Nat, (j ≤ 18 ∧ Hid (∀ m, m < j → ¬ nameAt s m)) ∧ i = .int .i64 j) (fun i => 18 - (intOf i).toNat)
  case atStart => exact ⟨0, ⟨by omega, fun m hm => absurd hm (Nat.not_lt_zero _)⟩, rfl⟩
  case round =>
    obtain ⟨j, ⟨hj, HN⟩, rfl⟩ := hrel
    by_cases h18 : j = 18
    · subst h18
      go_wp2
      go_ret
      exact ⟨ret_i (by rw [faceOf_none s HN.out]; rfl), HB.out⟩
    · have hlt : (j : Int) < 18 := by omega
      have hi := HI.out j (by omega)
      by_cases he : nameAt s j
      · have he' : (⟨(nmT.getD j []).toArray⟩ : ByteArray) = s := he
        rw [he'] at hi
        clear he'
        have hb : (s.toList == s.toList) = true := beq_self_eq_true _
        go_wp2
        go_ret
        exact ⟨ret_i (by rw [faceOf_at s j (by omega) he HN.out]), HB.out⟩
      · have hb : ((⟨(nmT.getD j []).toArray⟩ : ByteArray).toList == s.toList) = false := (neq_toList he)
        have HE : Hid (¬ nameAt s j) := he
        clear he
        generalize (⟨(nmT.getD j []).toArray⟩ : ByteArray) = y at *
        go_wp2
        go_round
        case rel =>
          refine ⟨j + 1, ⟨by omega, fun m hm => ?_⟩, by go_num⟩
          rcases Nat.lt_succ_iff_lt_or_eq.1 hm with h | rfl
          · exact HN.out m h
          · exact HE.out
        case measure => simp [intOf]; omega

set_option maxRecDepth 100000 in
/-- The law's own example. -/
theorem awake_any (w : World) (a : Addr) (hm : w.cell? ⟨0, 0, none⟩ = some (.iface 72 (.pointer (some a)))) :
    Calls Tryd.prog 7 #[] w fun e w' => e = .returned (.bool true) ∧ Below w.heap.size w w' := by
  have HR : Hid (Calls Tryd.prog 8 #[.int .i64 8, .int .i64 3] w fun e w' => e = .returned (.tuple #[.string ⟨#[110]⟩, .nilIface]) ∧ Below w.heap.size w w') := Request_any 8 3 w a hm
  have HM : Hid (∀ u, Calls Tryd.prog 13 #[.int .i64 8, .int .i64 3] u fun e w' => e = .returned (.int .i64 3) ∧ Below u.heap.size u w') := Makes_any 8 3
  have HN : Hid (∀ u, Calls Tryd.prog 15 #[.int .i64 8] u fun e w' => e = .returned (.string ⟨#[119, 108, 95, 115, 117, 114, 102, 97, 99, 101]⟩) ∧ Below u.heap.size u w') := Name_any 8
  clear hm
  go_enter Tryd.func7, Tryd.ntmps7
  go_wp2_with fail
  refine HR.out.mono ?_
  rintro e w1 ⟨rfl, b1⟩
  go_wp2_with fail
  refine (HM.out _).mono ?_
  rintro e w2 ⟨rfl, b2⟩
  have b2 : Below w.heap.size w w2 := b1.trans (b2.mono b1.size)
  go_wp2_with fail
  refine (HN.out _).mono ?_
  rintro e w3 ⟨rfl, b3⟩
  have b3 : Below w.heap.size w w3 := b2.trans (b3.mono b2.size)
  go_wp2
  go_ret
  exact ⟨rfl, b3⟩
end Go.Proofs.YtadklnjkkmfhdaaDoor
