/- fault.kinds, fault.Kind. -/
import Derived.Test.YtghccfgoiejajaaDoorFltF
import Derived.Test.YtghccfgoiejajaaDoorKindA
namespace Go.Proofs.YtghccfgoiejajaaDoor
open Go Go.RowKit

/-- What stands at each kind. -/
def kindsAt (es : List Addr) : Value := .agg #[.nilIface, erv es 1, erv es 2, erv es 3, erv es 4, erv es 5, erv es 6, erv es 7, erv es 8, erv es 9, erv es 10, erv es 11, erv es 12, erv es 13, erv es 14, erv es 15, erv es 16]

/-- The world with the variable of kinds' result. -/
abbrev wK (w : World) : World := w.alloc (.cells #[.nilIface, .nilIface, .nilIface, .nilIface, .nilIface, .nilIface, .nilIface, .nilIface, .nilIface, .nilIface, .nilIface, .nilIface, .nilIface, .nilIface, .nilIface, .nilIface, .nilIface] 52)

set_option maxRecDepth 100000 in
theorem kinds_all (w : World) (es : List Addr) (h : Errs w gerrs es) :
    Calls Tryd.prog 24 #[] w fun e w' => e = .returned (kindsAt es) ∧ Below w.heap.size w w' := by
  obtain ⟨x0, x1, x2, x3, x4, x5, x6, x7, x8, x9, x10, x11, x12, x13, x14, x15, rfl⟩ := len16 h.len
  have h' := h.below (w' := wK w) ((Below.refl _ _).alloc (Nat.le_refl _) _)
  have c0 := (h'.each 0 _ _ rfl rfl).1
  have c1 := (h'.each 1 _ _ rfl rfl).1
  have c2 := (h'.each 2 _ _ rfl rfl).1
  have c3 := (h'.each 3 _ _ rfl rfl).1
  have c4 := (h'.each 4 _ _ rfl rfl).1
  have c5 := (h'.each 5 _ _ rfl rfl).1
  have c6 := (h'.each 6 _ _ rfl rfl).1
  have c7 := (h'.each 7 _ _ rfl rfl).1
  have c8 := (h'.each 8 _ _ rfl rfl).1
  have c9 := (h'.each 9 _ _ rfl rfl).1
  have c10 := (h'.each 10 _ _ rfl rfl).1
  have c11 := (h'.each 11 _ _ rfl rfl).1
  have c12 := (h'.each 12 _ _ rfl rfl).1
  have c13 := (h'.each 13 _ _ rfl rfl).1
  have c14 := (h'.each 14 _ _ rfl rfl).1
  have c15 := (h'.each 15 _ _ rfl rfl).1
  clear h h'
  go_enter Tryd.func24, Tryd.ntmps24
  go_wp2
  refine bodyPost_ret (v := kindsAt [x0, x1, x2, x3, x4, x5, x6, x7, x8, x9, x10, x11, x12, x13, x14, x15]) ?_ rfl ⟨rfl, (Below.refl _ _).alloc (Nat.le_refl _) _⟩
  simp [results, Tryd.results24, go_sem, kindsAt, erv]

/-- Which of the errors the last one of a chain is: 0: none; 17: another one. -/
def Leaf (w : World) (es : List Addr) (L : Value) (k : Nat) : Prop :=
  (k = 0 ∧ L = .nilIface) ∨ (1 ≤ k ∧ k ≤ 16 ∧ L = erv es k) ∨ (k = 17 ∧ ∃ a, L = eS a ∧ a ∉ es ∧ ∃ c t, w.heap[a.block]? = some (.cells c t (0, 0)))

theorem erv_at {w : World} {es : List Addr} (h : Errs w gerrs es) {j : Nat} (h1 : 1 ≤ j) (h2 : j ≤ 16) : ∃ x, erv es j = eS x ∧ es[j - 1]? = some x ∧ ∃ c t, w.heap[x.block]? = some (.cells c t (0, 0)) := by
  obtain ⟨i, rfl⟩ : ∃ i, j = i + 1 := ⟨j - 1, by omega⟩
  have hl : i < es.length := by rw [h.len]; exact h2
  refine ⟨es[i], ?_, List.getElem?_eq_getElem hl, ?_⟩
  · show Value.iface _ _ = Value.iface _ _
    rw [List.getD, List.getElem?_eq_getElem hl]
    rfl
  · exact (h.each i _ _ (List.getElem?_eq_getElem (by rw [← h.len]; exact hl)) (List.getElem?_eq_getElem hl)).2

/-- errors.Is on a chain, at the j-th error. -/
theorem Is_kind (w : World) (es : List Addr) (h : Errs w gerrs es) (L v : Value) (F : Option Nat) (k j : Nat) (hc : Ch w L v F) (hk : Leaf w es L k) (h1 : 1 ≤ j) (h2 : j ≤ 16) :
    Calls Tryd.prog 20 #[v, erv es j] w fun e w' => e = .returned (.bool (decide (k = j))) ∧ w' = w := by
  obtain ⟨x, hx, hj, hxb⟩ := erv_at h h1 h2
  rw [hx]
  refine Is_chain w L v F x hc ?_ _ ?_
  · rintro a rfl hne
    rcases hk with ⟨_, hL⟩ | ⟨hk1, hk2, hL⟩ | ⟨_, a', hL, _, ha⟩
    · cases hL
    · obtain ⟨y, hy, _, hyb⟩ := erv_at h hk1 hk2
      rw [hy] at hL
      injection hL with _ hL; injection hL with hL; injection hL with hL
      subst hL
      exact ⟨hyb, hxb⟩
    · injection hL with _ hL; injection hL with hL; injection hL with hL
      subst hL
      exact ⟨ha, hxb⟩
  · rw [decide_eq_true_iff]
    rcases hk with ⟨rfl, rfl⟩ | ⟨hk1, hk2, rfl⟩ | ⟨rfl, a', rfl, ha, _⟩
    · exact ⟨fun e => by omega, fun e => by cases e⟩
    · obtain ⟨y, hy, hyj, _⟩ := erv_at h hk1 hk2
      constructor
      · rintro rfl; exact hx
      · intro e
        rw [hy] at e
        injection e with _ e; injection e with e; injection e with e
        subst e
        have := nodup_at h.nodup hyj hj
        omega
    · refine ⟨fun e => by omega, fun e => ?_⟩
      injection e with _ e; injection e with e; injection e with e
      subst e
      exact absurd (List.mem_of_getElem? hj) ha

theorem Leaf.stays {w w' : World} {es : List Addr} {L : Value} {k : Nat} (h : Leaf w es L k) (hb : Below w.heap.size w w') : Leaf w' es L k := by
  rcases h with h | h | ⟨h1, a, h2, h3, c, t, h4⟩
  · exact .inl h
  · exact .inr (.inl h)
  · exact .inr (.inr ⟨h1, a, h2, h3, c, t, by rw [hb.block _ (Array.getElem?_eq_some_iff.1 h4).1]; exact h4⟩)

/-- fault.Is on a chain, at the j-th error. -/
theorem fIs_kind (w : World) (es : List Addr) (h : Errs w gerrs es) (L v : Value) (F : Option Nat) (k j : Nat) (hc : Ch w L v F) (hk : Leaf w es L k) (h1 : 1 ≤ j) (h2 : j ≤ 16) :
    Calls Tryd.prog 19 #[v, erv es j] w fun e w' => e = .returned (.bool (decide (k = j))) ∧ Below w.heap.size w w' :=
  fIs w v (erv es j) _ fun w' hb => Is_kind w' es (h.below hb) L v F k j (hc.stays hb) (hk.stays hb) h1 h2

def kindOf (k : Nat) : Nat := if k = 0 then 17 else k

end Go.Proofs.YtghccfgoiejajaaDoor
