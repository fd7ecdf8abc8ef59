/- The document's orders: place, Has, Drop, Top, Put. -/
import Derived.Test.YtfedcpnnmkkpaaaDoorOrdA
namespace Go.Proofs.YtfedcpnnmkkpaaaDoor
open Go Go.RowKit

/-- Where one stands, as the document tells it. -/
def plI (k : Int) (l : List Int) : Int := match zx k l with
  | some i => i
  | none => -1
theorem plI_some {k : Int} {l : List Int} {i : Nat} (h : zx k l = some i) : plI k l = i := by rw [plI, h]
theorem plI_none {k : Int} {l : List Int} (h : zx k l = none) : plI k l = -1 := by rw [plI, h]


set_option maxRecDepth 100000 in
set_option maxHeartbeats 1000000 in
theorem odropr_any (a : Option Addr) (n c : Nat) (l : List Int) (k : Int) (w : World) (h : Rz w a n c l) (hn : n ≤ 1000000) :
    Calls Tryd.prog 10 #[.slice a n c, .int .i64 k] w fun e w' => ∃ v, e = .returned v ∧ OwZ w w' v (dr k l) := by
  obtain ⟨i0, hi, hz0, hz1, hz2⟩ := infoZp
  have H := hid h
  have HL := hid h.len
  clear h
  go_enter Tryd.func10, Tryd.ntmps10
  go_wp2
  go_loopw [5, 6] (fun v i wr => ∃ j : Nat, i = .int .i64 j ∧ j ≤ n ∧ OwZ w wr v (dr k (l.take j))) (fun _ i _ => n - (numOf i).toNat)
  case atStart => exact ⟨0, rfl, by omega, OwZ.nil w⟩
  case round =>
    obtain ⟨j, rfl, hj, ho⟩ := hrel
    have hdl : (dr k (l.take j)).length ≤ j := Nat.le_trans (dr_length _ _) (List.length_take_le _ _)
    by_cases hgo : j < n
    · have e1 : decide ((j : Int) < n) = true := decide_eq_true (by omega)
      have e2 : (j : Int) < n := by omega
      obtain ⟨bl, off, x, rfl, _, hx, c0⟩ := (H.out.on ho.bel).at_ hgo
      have hts : l.take (j + 1) = l.take j ++ [x] := by rw [List.take_add_one, hx]; rfl
      have HO := hid ho
      cases hs : (x != k)
      · have HN : Hid (∀ v, OwZ w wr v (dr k (l.take j)) → OwZ w wr v (dr k (l.take (j + 1)))) := fun v hv => by
          have hxk : x = k := by simpa using hs
          rw [hts, dr_append, dr_cons, if_pos hxk]
          simpa [dr] using hv
        clear ho hx hts
        go_wp2
        go_roundw
        case rel => exact ⟨j + 1, by go_num, by omega, HN.out _ HO.out⟩
        case measure => simp [numOf]; omega
      · have HN : Hid (∀ v v' u, OwZ w wr v (dr k (l.take j)) → u.ownsRow w.heap.size 3 1 v' ((dr k (l.take j)).length + 1) (ic (dr k (l.take j)) ++ ic [x]) → (wr.alloc (.cells #[.int .i64 x] 3)).grownBy u v.ownBlock → OwZ w u v' (dr k (l.take (j + 1)))) := fun v v' u hv o g => by
          have hxk : ¬ x = k := by simpa using hs
          rw [hts, dr_append, dr_cons, if_neg hxk]
          exact (hv.alloc _).grown (k := [x]) rfl o g
        have HS := hid (srcLit wr x)
        have HW := hid (ho.alloc (.cells #[.int .i64 x] 3)).own
        have hws : w.heap.size ≤ (wr.alloc (.cells #[.int .i64 x] 3)).heap.size := by rw [World.size_alloc]; have := ho.bel.size; omega
        generalize (dr k (l.take j)).length = m at *
        clear ho hx hts
        go_wp2_with (at_builtin; refine wpList_append_own_src _ rfl (.tmp 19) (.tmp 24) 22 22 rfl w.heap.size 3 i0 (.int .i64 0) 1 8 Tryd.underlying22 hi hz0 hz1 hz2 rfl _ _ _ rfl HW.out _ _ _ rfl HS.out (by simp only [maxLen]; omega) (fitsZ (by omega)) hws ?_; intro v3 w3 o3 g3; have HZ := hid (HN.out _ _ _ HO.out o3 g3); clear o3 g3)
        go_roundw
        case rel => exact ⟨j + 1, by go_num, by omega, HZ.out⟩
        case measure => simp [numOf]; omega
    · have e1 : decide ((j : Int) < n) = false := decide_eq_false (by omega)
      have HE : Hid (l.take j = l) := List.take_of_length_le (by rw [HL.out]; omega)
      rw [HE.out] at ho
      have HO := hid ho
      clear ho
      go_wp2
      go_ret
      exact ⟨_, rfl, HO.out⟩
end Go.Proofs.YtfedcpnnmkkpaaaDoor
