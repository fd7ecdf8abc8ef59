/- The contract of tableaulaw00.Kind: of nil 0; of the error that the k-th listed variable holds, k + 1; it turns nothing that was there. -/
import Derived.Test.YtmcbbpcbebbjdaaDoorLibE
namespace Go.Proofs.YtmcbbpcbebbjdaaDoor
open Go Go.RowKit

theorem len16 {α : Type} {l : List α} (h : l.length = 16) : ∃ x0 x1 x2 x3 x4 x5 x6 x7 x8 x9 x10 x11 x12 x13 x14 x15, l = [x0, x1, x2, x3, x4, x5, x6, x7, x8, x9, x10, x11, x12, x13, x14, x15] := by
  match l, h with
  | [x0, x1, x2, x3, x4, x5, x6, x7, x8, x9, x10, x11, x12, x13, x14, x15], _ => exact ⟨_, _, _, _, _, _, _, _, _, _, _, _, _, _, _, _, rfl⟩

theorem nodup_at {l : List Addr} (h : l.Nodup) {i j : Nat} {a : Addr} (hi : l[i]? = some a) (hj : l[j]? = some a) : i = j := by
  induction l generalizing i j with
  | nil => simp at hi
  | cons x l ih =>
    rw [List.nodup_cons] at h
    cases i with
    | zero =>
      cases j with
      | zero => rfl
      | succ j =>
        simp only [List.getElem?_cons_zero, List.getElem?_cons_succ, Option.some.injEq] at hi hj
        subst hi
        exact absurd (List.mem_of_getElem? hj) h.1
    | succ i =>
      cases j with
      | zero =>
        simp only [List.getElem?_cons_zero, List.getElem?_cons_succ, Option.some.injEq] at hi hj
        subst hj
        exact absurd (List.mem_of_getElem? hi) h.1
      | succ j =>
        simp only [List.getElem?_cons_succ] at hi hj
        rw [ih h.2 hi hj]

theorem ret_int' {k : IntKind} {a b : Int} (h : a = b) : Ending.returned (.int k a) = .returned (.int k b) := by rw [h]

set_option maxRecDepth 100000 in
theorem kind_any (w : World) (es : List Addr) (h : Errs w gerrs es) (k : Nat) (a : Addr) (ha : es[k]? = some a) :
    Calls Tryd.prog 13 #[.iface 67 (.pointer (some a))] w fun e w' => e = .returned (.int .i64 (k + 1 : Nat)) ∧ Below w.heap.size w w' := by
  obtain ⟨x0, x1, x2, x3, x4, x5, x6, x7, x8, x9, x10, x11, x12, x13, x14, x15, rfl⟩ := len16 h.len
  have c0 := (h.each 0 _ _ rfl rfl).1
  have c1 := (h.each 1 _ _ rfl rfl).1
  have c2 := (h.each 2 _ _ rfl rfl).1
  have c3 := (h.each 3 _ _ rfl rfl).1
  have c4 := (h.each 4 _ _ rfl rfl).1
  have c5 := (h.each 5 _ _ rfl rfl).1
  have c6 := (h.each 6 _ _ rfl rfl).1
  have c7 := (h.each 7 _ _ rfl rfl).1
  have c8 := (h.each 8 _ _ rfl rfl).1
  have c9 := (h.each 9 _ _ rfl rfl).1
  have c10 := (h.each 10 _ _ rfl rfl).1
  have c11 := (h.each 11 _ _ rfl rfl).1
  have c12 := (h.each 12 _ _ rfl rfl).1
  have c13 := (h.each 13 _ _ rfl rfl).1
  have c14 := (h.each 14 _ _ rfl rfl).1
  have c15 := (h.each 15 _ _ rfl rfl).1
  have hk : k < 16 := by
    rcases Nat.lt_or_ge k 16 with h' | h'
    · exact h'
    · rw [List.getElem?_eq_none (by simpa using h')] at ha; cases ha
  have hbel : Below w.heap.size w (w.alloc (.cells #[.iface 67 (.pointer (some x0)), .iface 67 (.pointer (some x1)), .iface 67 (.pointer (some x2)), .iface 67 (.pointer (some x3)), .iface 67 (.pointer (some x4)), .iface 67 (.pointer (some x5)), .iface 67 (.pointer (some x6)), .iface 67 (.pointer (some x7)), .iface 67 (.pointer (some x8)), .iface 67 (.pointer (some x9)), .iface 67 (.pointer (some x10)), .iface 67 (.pointer (some x11)), .iface 67 (.pointer (some x12)), .iface 67 (.pointer (some x13)), .iface 67 (.pointer (some x14)), .iface 67 (.pointer (some x15))] 50)) := (Below.refl _ _).alloc (Nat.le_refl _) _
  have HB : Hid (Below w.heap.size w (w.alloc (.cells #[.iface 67 (.pointer (some x0)), .iface 67 (.pointer (some x1)), .iface 67 (.pointer (some x2)), .iface 67 (.pointer (some x3)), .iface 67 (.pointer (some x4)), .iface 67 (.pointer (some x5)), .iface 67 (.pointer (some x6)), .iface 67 (.pointer (some x7)), .iface 67 (.pointer (some x8)), .iface 67 (.pointer (some x9)), .iface 67 (.pointer (some x10)), .iface 67 (.pointer (some x11)), .iface 67 (.pointer (some x12)), .iface 67 (.pointer (some x13)), .iface 67 (.pointer (some x14)), .iface 67 (.pointer (some x15))] 50))) := hbel
  have HL : Hid (∀ (j : Nat) (x : Addr), [x0, x1, x2, x3, x4, x5, x6, x7, x8, x9, x10, x11, x12, x13, x14, x15][j]? = some x → (w.alloc (.cells #[.iface 67 (.pointer (some x0)), .iface 67 (.pointer (some x1)), .iface 67 (.pointer (some x2)), .iface 67 (.pointer (some x3)), .iface 67 (.pointer (some x4)), .iface 67 (.pointer (some x5)), .iface 67 (.pointer (some x6)), .iface 67 (.pointer (some x7)), .iface 67 (.pointer (some x8)), .iface 67 (.pointer (some x9)), .iface 67 (.pointer (some x10)), .iface 67 (.pointer (some x11)), .iface 67 (.pointer (some x12)), .iface 67 (.pointer (some x13)), .iface 67 (.pointer (some x14)), .iface 67 (.pointer (some x15))] 50)).cell? ⟨w.heap.size, j, none⟩ = some (.iface 67 (.pointer (some x)))) := by
    intro j x hx
    have e : (#[.iface 67 (.pointer (some x0)), .iface 67 (.pointer (some x1)), .iface 67 (.pointer (some x2)), .iface 67 (.pointer (some x3)), .iface 67 (.pointer (some x4)), .iface 67 (.pointer (some x5)), .iface 67 (.pointer (some x6)), .iface 67 (.pointer (some x7)), .iface 67 (.pointer (some x8)), .iface 67 (.pointer (some x9)), .iface 67 (.pointer (some x10)), .iface 67 (.pointer (some x11)), .iface 67 (.pointer (some x12)), .iface 67 (.pointer (some x13)), .iface 67 (.pointer (some x14)), .iface 67 (.pointer (some x15))] : Array Value)[j]? = some (.iface 67 (.pointer (some x))) := by
      have : ([x0, x1, x2, x3, x4, x5, x6, x7, x8, x9, x10, x11, x12, x13, x14, x15].map fun y => Value.iface 67 (.pointer (some y)))[j]? = some (.iface 67 (.pointer (some x))) := by rw [List.getElem?_map, hx]; rfl
      simpa using this
    rw [World.cell?_alloc_at _ _ _ _ rfl]
    exact e
  clear hbel
  have HE : Hid (Errs w gerrs [x0, x1, x2, x3, x4, x5, x6, x7, x8, x9, x10, x11, x12, x13, x14, x15]) := h
  have HA : Hid ([x0, x1, x2, x3, x4, x5, x6, x7, x8, x9, x10, x11, x12, x13, x14, x15][k]? = some a) := ha
  clear h ha
  go_enter Tryd.func13, Tryd.ntmps13
  go_wp2
  clear c0 c1 c2 c3 c4 c5 c6 c7 c8 c9 c10 c11 c12 c13 c14 c15
  generalize hW : w.alloc (.cells #[.iface 67 (.pointer (some x0)), .iface 67 (.pointer (some x1)), .iface 67 (.pointer (some x2)), .iface 67 (.pointer (some x3)), .iface 67 (.pointer (some x4)), .iface 67 (.pointer (some x5)), .iface 67 (.pointer (some x6)), .iface 67 (.pointer (some x7)), .iface 67 (.pointer (some x8)), .iface 67 (.pointer (some x9)), .iface 67 (.pointer (some x10)), .iface 67 (.pointer (some x11)), .iface 67 (.pointer (some x12)), .iface 67 (.pointer (some x13)), .iface 67 (.pointer (some x14)), .iface 67 (.pointer (some x15))] 50) = W at *
  clear hW
  go_loop [4] (fun i => ∃ j : Nat, j ≤ k ∧ i = .int .i64 j) (fun i => 16 - (RowKit.intOf i).toNat)
  case atStart => exact ⟨0, Nat.zero_le _, rfl⟩
  case round =>
    obtain ⟨j, hj, rfl⟩ := hrel
    obtain ⟨x, hx⟩ : ∃ x, [x0, x1, x2, x3, x4, x5, x6, x7, x8, x9, x10, x11, x12, x13, x14, x15][j]? = some x := ⟨_, List.getElem?_eq_getElem (by simp; omega)⟩
    have hl := HL.out j x hx
    have HX : Hid ([x0, x1, x2, x3, x4, x5, x6, x7, x8, x9, x10, x11, x12, x13, x14, x15][j]? = some x) := hx
    clear hx
    have hj16 : (j : Int) < 16 := by omega
    by_cases he : j = k
    · subst he
      obtain rfl : x = a := Option.some.inj (HX.out.symm.trans HA.out)
      go_wp2_with (go_at_call 20; refine (is_same x _).mono ?_; rintro e w' ⟨rfl, rfl⟩)
      go_ret
      exact ⟨ret_int' (by omega), HB.out⟩
    · have hne : a ≠ x := by
        intro hax
        subst hax
        have e1 := HA.out
        have e2 := HX.out
        exact he (nodup_at HE.out.nodup e2 e1)
      obtain ⟨_, ca, ta, ha⟩ := (HE.out.each k _ a (List.getElem?_eq_getElem (by show _ < 16; omega)) HA.out).below HB.out
      obtain ⟨_, cb, tb, hb⟩ := (HE.out.each j _ x (List.getElem?_eq_getElem (by show _ < 16; omega)) HX.out).below HB.out
      have HC : Hid (∀ _ : Unit, Calls Tryd.prog 20 #[.iface 67 (.pointer (some a)), .iface 67 (.pointer (some x))] W fun e w' => e = .returned (.bool false) ∧ w' = W) := fun _ => is_other a x ca cb ta tb W hne ha hb
      clear ha hb hne
      go_wp2_with (go_at_call 20; refine (HC.out ()).mono ?_; rintro e w' ⟨rfl, rfl⟩)
      go_round
      case rel => exact ⟨j + 1, by omega, by go_num⟩
      case measure => simp [RowKit.intOf]; omega

set_option maxRecDepth 100000 in
theorem kind_nil (w : World) (es : List Addr) (h : Errs w gerrs es) :
    Calls Tryd.prog 13 #[.nilIface] w fun e w' => e = .returned (.int .i64 0) ∧ Below w.heap.size w w' := by
  obtain ⟨x0, x1, x2, x3, x4, x5, x6, x7, x8, x9, x10, x11, x12, x13, x14, x15, rfl⟩ := len16 h.len
  have c0 := (h.each 0 _ _ rfl rfl).1
  have c1 := (h.each 1 _ _ rfl rfl).1
  have c2 := (h.each 2 _ _ rfl rfl).1
  have c3 := (h.each 3 _ _ rfl rfl).1
  have c4 := (h.each 4 _ _ rfl rfl).1
  have c5 := (h.each 5 _ _ rfl rfl).1
  have c6 := (h.each 6 _ _ rfl rfl).1
  have c7 := (h.each 7 _ _ rfl rfl).1
  have c8 := (h.each 8 _ _ rfl rfl).1
  have c9 := (h.each 9 _ _ rfl rfl).1
  have c10 := (h.each 10 _ _ rfl rfl).1
  have c11 := (h.each 11 _ _ rfl rfl).1
  have c12 := (h.each 12 _ _ rfl rfl).1
  have c13 := (h.each 13 _ _ rfl rfl).1
  have c14 := (h.each 14 _ _ rfl rfl).1
  have c15 := (h.each 15 _ _ rfl rfl).1
  go_enter Tryd.func13, Tryd.ntmps13
  go_wp2
  go_ret
  exact ⟨rfl, (Below.refl _ _).alloc (Nat.le_refl _) _⟩

theorem kind_erv (w : World) (es : List Addr) (h : Errs w gerrs es) (k : Nat) (hk : k ≤ 16) :
    Calls Tryd.prog 13 #[erv es k] w fun e w' => e = .returned (.int .i64 k) ∧ Below w.heap.size w w' := by
  cases k with
  | zero => exact kind_nil w es h
  | succ k =>
    have hl : k < es.length := by rw [h.len]; exact hk
    refine kind_any w es h k _ ?_
    rw [List.getD, List.getElem?_eq_getElem hl]
    rfl
end Go.Proofs.YtmcbbpcbebbjdaaDoor
