/- errors.Is of an error that wire wraps with an argument's place; tableaulaw00.Kind of such a one. -/
import Derived.Test.YtoggnfadfocogaaDoorKindA
import Derived.Test.YtoggnfadfocogaaDoorWireB
namespace Go.Proofs.YtoggnfadfocogaaDoor
open Go Go.RowKit

theorem eqNe (tx ty : TypeId) (vx vy : Value) (hne : tx ≠ ty) (w : World) : (binOp .eql 31 (.iface tx vx) (.iface ty vy)).run Tryd.prog w = .ok (.bool false) w := run_eql_iface_types tx ty vx vy Tryd.underlying31 hne w
theorem noIsN (v : Value) (xT : TypeId) (w : World) : (Instr.typeAssert (.iface 69 v) xT 97 true).run Tryd.prog w = .ok (.tuple #[.nilIface, .bool false]) w := run_typeAssert_lacksB Tryd.underlying97 (by kernel_rfl) (by kernel_rfl) v xT w
theorem unwrapN (v : Value) (xT : TypeId) (w : World) : (Instr.typeAssert (.iface 69 v) xT 100 true).run Tryd.prog w = .ok (.tuple #[.iface 69 v, .bool true]) w := run_typeAssert_hasB Tryd.underlying100 (by kernel_rfl) v xT w
theorem mUnwrapN (n : Nat) (v : Value) (w : World) : (Go.method (n + 1) 69 v "Unwrap").run Tryd.prog w = .ok (72, v) w := by kernel_rfl

set_option maxRecDepth 100000 in
theorem is_found (a x : Addr) (p : Int) (w : World) (hA : a ≠ x → (∃ c t, w.heap[a.block]? = some (.cells c t (0, 0))) ∧ ∃ c t, w.heap[x.block]? = some (.cells c t (0, 0))) :
    Calls Tryd.prog 34 #[.iface 69 (.agg #[.iface 106 (.pointer (some a)), .int .i64 p]), .iface 106 (.pointer (some x))] w fun e w' => e = .returned (.bool (decide (a = x))) ∧ Below w.heap.size w w' := by
  obtain ⟨i, hi, hcmp⟩ := Option.map_eq_some_iff.1 isComp
  obtain ⟨j, hj, hjs⟩ := Option.map_eq_some_iff.1 isSize
  have h8 := @run_callFunc_extern Tryd.prog 43 _ Extern.ReflectliteType.typeOf Tryd.func43 (by kernel_rfl) (by kernel_rfl) (by kernel_rfl) (by kernel_rfl)
  have h32 := @run_callFunc_extern Tryd.prog 76 _ (Extern.ReflectliteType.method fun t => do Extern.Rtype.noPackHeld "Comparable" t; pure (.bool (← typeInfo t).comparable)) Tryd.func76 (by kernel_rfl) (by kernel_rfl) (by kernel_rfl) (by kernel_rfl)
  have tT := isTypeOf
  have cT := isComparable
  have mR := isMethodComparable
  have nE := noIsE
  have uE := noUnwrapE
  have vE := noUnwrapsE
  have nN := noIsN
  have uN := unwrapN
  have mN := mUnwrapN
  have hq := eqNe 69 106 (.agg #[.iface 106 (.pointer (some a)), .int .i64 p]) (.pointer (some x)) (by decide)
  have HB : Hid (∀ o, Below w.heap.size w (w.alloc o)) := fun o => (Below.refl _ _).alloc (Nat.le_refl _) o
  by_cases hax : a = x
  · have hd : Hid (decide (a = x) = true) := by show decide _ = true; simp [hax]
    subst hax
    have heq := fun u : World => run_eql_iface_ptr_same (P := Tryd.prog) u a Tryd.underlying31 Tryd.underlying106 hi hcmp hj
    clear hA
    rw [hd.out]
    go_enter Tryd.func34, Tryd.ntmps34
    go_wp2
    refine wp_loop_rounds 2 ?_
    rw [rounds_succ]
    go_wp2
    rw [rounds_succ]
    go_wp2
    go_ret
    exact ⟨rfl, HB.out _⟩
  · have hd : Hid (decide (a = x) = false) := by show decide _ = false; simp [hax]
    obtain ⟨⟨ca, ta, ha⟩, cb, tb, hb⟩ := hA hax
    have heq := fun o => run_eql_iface_ptr_other (P := Tryd.prog) (w.alloc o) Tryd.underlying31 Tryd.underlying106 hi hcmp hj (by rw [hjs]; decide) hax (by rw [(HB.out o).block _ (Array.getElem?_eq_some_iff.1 ha).1]; exact ha) (by rw [(HB.out o).block _ (Array.getElem?_eq_some_iff.1 hb).1]; exact hb)
    clear ha hb hA hax
    rw [hd.out]
    go_enter Tryd.func34, Tryd.ntmps34
    go_wp2
    refine wp_loop_rounds 2 ?_
    rw [rounds_succ]
    go_wp2
    rw [rounds_succ]
    go_wp2
    go_ret
    exact ⟨rfl, HB.out _⟩

set_option maxRecDepth 100000 in
theorem kind_by (w : World) (es : List Addr) (h : Errs w gerrs es) (k : Nat) (hk : k < 16) (t : TypeId) (v : Value)
    (ha : ∀ (j : Nat) (x : Addr) (u : World), es[j]? = some x → Below w.heap.size w u → Calls Tryd.prog 34 #[.iface t v, .iface 106 (.pointer (some x))] u fun e w' => e = .returned (.bool (decide (j = k))) ∧ Below u.heap.size u w') :
    Calls Tryd.prog 19 #[.iface t v] w fun e w' => e = .returned (.int .i64 (k + 1 : Nat)) ∧ Below w.heap.size w w' := by
  obtain ⟨x0, x1, x2, x3, x4, x5, x6, x7, x8, x9, x10, x11, x12, x13, x14, x15, rfl⟩ := len16 h.len
  have c0 := (h.each 0 _ _ rfl rfl).1
  have c1 := (h.each 1 _ _ rfl rfl).1
  have c2 := (h.each 2 _ _ rfl rfl).1
  have c3 := (h.each 3 _ _ rfl rfl).1
  have c4 := (h.each 4 _ _ rfl rfl).1
  have c5 := (h.each 5 _ _ rfl rfl).1
  have c6 := (h.each 6 _ _ rfl rfl).1
  have c7 := (h.each 7 _ _ rfl rfl).1
  have c8 := (h.each 8 _ _ rfl rfl).1
  have c9 := (h.each 9 _ _ rfl rfl).1
  have c10 := (h.each 10 _ _ rfl rfl).1
  have c11 := (h.each 11 _ _ rfl rfl).1
  have c12 := (h.each 12 _ _ rfl rfl).1
  have c13 := (h.each 13 _ _ rfl rfl).1
  have c14 := (h.each 14 _ _ rfl rfl).1
  have c15 := (h.each 15 _ _ rfl rfl).1
  have hbel : Below w.heap.size w (w.alloc (.cells #[.iface 106 (.pointer (some x0)), .iface 106 (.pointer (some x1)), .iface 106 (.pointer (some x2)), .iface 106 (.pointer (some x3)), .iface 106 (.pointer (some x4)), .iface 106 (.pointer (some x5)), .iface 106 (.pointer (some x6)), .iface 106 (.pointer (some x7)), .iface 106 (.pointer (some x8)), .iface 106 (.pointer (some x9)), .iface 106 (.pointer (some x10)), .iface 106 (.pointer (some x11)), .iface 106 (.pointer (some x12)), .iface 106 (.pointer (some x13)), .iface 106 (.pointer (some x14)), .iface 106 (.pointer (some x15))] 76)) := (Below.refl _ _).alloc (Nat.le_refl _) _
  have HB : Hid (Below w.heap.size w (w.alloc (.cells #[.iface 106 (.pointer (some x0)), .iface 106 (.pointer (some x1)), .iface 106 (.pointer (some x2)), .iface 106 (.pointer (some x3)), .iface 106 (.pointer (some x4)), .iface 106 (.pointer (some x5)), .iface 106 (.pointer (some x6)), .iface 106 (.pointer (some x7)), .iface 106 (.pointer (some x8)), .iface 106 (.pointer (some x9)), .iface 106 (.pointer (some x10)), .iface 106 (.pointer (some x11)), .iface 106 (.pointer (some x12)), .iface 106 (.pointer (some x13)), .iface 106 (.pointer (some x14)), .iface 106 (.pointer (some x15))] 76))) := hbel
  have HL : Hid (∀ (j : Nat) (x : Addr), [x0, x1, x2, x3, x4, x5, x6, x7, x8, x9, x10, x11, x12, x13, x14, x15][j]? = some x → (w.alloc (.cells #[.iface 106 (.pointer (some x0)), .iface 106 (.pointer (some x1)), .iface 106 (.pointer (some x2)), .iface 106 (.pointer (some x3)), .iface 106 (.pointer (some x4)), .iface 106 (.pointer (some x5)), .iface 106 (.pointer (some x6)), .iface 106 (.pointer (some x7)), .iface 106 (.pointer (some x8)), .iface 106 (.pointer (some x9)), .iface 106 (.pointer (some x10)), .iface 106 (.pointer (some x11)), .iface 106 (.pointer (some x12)), .iface 106 (.pointer (some x13)), .iface 106 (.pointer (some x14)), .iface 106 (.pointer (some x15))] 76)).cell? ⟨w.heap.size, j, none⟩ = some (.iface 106 (.pointer (some x)))) := by
    intro j x hx
    have e : (#[.iface 106 (.pointer (some x0)), .iface 106 (.pointer (some x1)), .iface 106 (.pointer (some x2)), .iface 106 (.pointer (some x3)), .iface 106 (.pointer (some x4)), .iface 106 (.pointer (some x5)), .iface 106 (.pointer (some x6)), .iface 106 (.pointer (some x7)), .iface 106 (.pointer (some x8)), .iface 106 (.pointer (some x9)), .iface 106 (.pointer (some x10)), .iface 106 (.pointer (some x11)), .iface 106 (.pointer (some x12)), .iface 106 (.pointer (some x13)), .iface 106 (.pointer (some x14)), .iface 106 (.pointer (some x15))] : Array Value)[j]? = some (.iface 106 (.pointer (some x))) := by
      have : ([x0, x1, x2, x3, x4, x5, x6, x7, x8, x9, x10, x11, x12, x13, x14, x15].map fun y => Value.iface 106 (.pointer (some y)))[j]? = some (.iface 106 (.pointer (some x))) := by rw [List.getElem?_map, hx]; rfl
      simpa using this
    rw [World.cell?_alloc_at _ _ _ _ rfl]
    exact e
  clear hbel
  have HE : Hid (Errs w gerrs [x0, x1, x2, x3, x4, x5, x6, x7, x8, x9, x10, x11, x12, x13, x14, x15]) := h
  have HA : Hid (∀ (j : Nat) (x : Addr) (u : World), [x0, x1, x2, x3, x4, x5, x6, x7, x8, x9, x10, x11, x12, x13, x14, x15][j]? = some x → Below w.heap.size w u → Calls Tryd.prog 34 #[.iface t v, .iface 106 (.pointer (some x))] u fun e w' => e = .returned (.bool (decide (j = k))) ∧ Below u.heap.size u w') := ha
  clear h ha
  go_enter Tryd.func19, Tryd.ntmps19
  go_wp2
  clear c0 c1 c2 c3 c4 c5 c6 c7 c8 c9 c10 c11 c12 c13 c14 c15
  generalize hW : w.alloc (.cells #[.iface 106 (.pointer (some x0)), .iface 106 (.pointer (some x1)), .iface 106 (.pointer (some x2)), .iface 106 (.pointer (some x3)), .iface 106 (.pointer (some x4)), .iface 106 (.pointer (some x5)), .iface 106 (.pointer (some x6)), .iface 106 (.pointer (some x7)), .iface 106 (.pointer (some x8)), .iface 106 (.pointer (some x9)), .iface 106 (.pointer (some x10)), .iface 106 (.pointer (some x11)), .iface 106 (.pointer (some x12)), .iface 106 (.pointer (some x13)), .iface 106 (.pointer (some x14)), .iface 106 (.pointer (some x15))] 76) = W at *
  clear hW
  go_loopw [4] (fun i wr => ∃ j : Nat, j ≤ k ∧ i = .int .i64 j ∧ Below W.heap.size W wr) (fun i _ => 16 - (intOf i).toNat)
  case atStart => exact ⟨0, Nat.zero_le _, rfl, Below.refl _ _⟩
  case round =>
    obtain ⟨j, hj, rfl, hbw⟩ := hrel
    obtain ⟨x, hx⟩ : ∃ x, [x0, x1, x2, x3, x4, x5, x6, x7, x8, x9, x10, x11, x12, x13, x14, x15][j]? = some x := ⟨_, List.getElem?_eq_getElem (by simp; omega)⟩
    have hl := HL.out j x hx
    have hls := World.block_lt_of_cell? W _ hl
    rw [← hbw.cell hls] at hl
    have HC : Hid (∀ _ : Unit, Calls Tryd.prog 34 #[.iface t v, .iface 106 (.pointer (some x))] wr fun e w' => e = .returned (.bool (decide (j = k))) ∧ Below wr.heap.size wr w') := fun _ => HA.out j x wr hx (HB.out.trans (hbw.mono HB.out.size))
    have HW : Hid (Below W.heap.size W wr) := hbw
    have hj16 : (j : Int) < 16 := by omega
    clear hx hls hbw
    by_cases he : j = k
    · have hd : Hid (decide (j = k) = true) := by show decide _ = true; simp [he]
      have HE' : Hid (j = k) := he
      clear he
      go_wp2_with (go_at_call 34; refine (HC.out ()).mono ?_; rw [hd.out]; rintro e w2 ⟨rfl, hb2⟩)
      go_ret
      refine ⟨ret_int' (by have := HE'.out; omega), ?_⟩
      have h2 : Below W.heap.size W w2 := HW.out.trans (hb2.mono HW.out.size)
      exact HB.out.trans (h2.mono HB.out.size)
    · have hd : Hid (decide (j = k) = false) := by show decide _ = false; simp [he]
      go_wp2_with (go_at_call 34; refine (HC.out ()).mono ?_; rw [hd.out]; rintro e w2 ⟨rfl, hb2⟩)
      go_roundw
      case rel => exact ⟨j + 1, by omega, by go_num, HW.out.trans (hb2.mono HW.out.size)⟩
      case measure => simp [intOf]; omega

/-- Kind of an error of the k-th kind. -/
theorem kind_er (w : World) (es : List Addr) (h : Errs w gerrs es) (r : Value) (k : Nat) (hk : k ≤ 16) (hr : Er es r k) :
    Calls Tryd.prog 19 #[r] w fun e w' => e = .returned (.int .i64 k) ∧ Below w.heap.size w w' := by
  rcases hr with rfl | ⟨h0, p, rfl⟩
  · exact kind_erv w es h k hk
  · obtain ⟨i, rfl⟩ : ∃ i, k = i + 1 := ⟨k - 1, by omega⟩
    have hl := h.len
    have hl16 : es.length = 16 := hl
    have hi : es[i]? = some (es.getD i ⟨0, 0, none⟩) := by rw [List.getD, List.getElem?_eq_getElem (by omega)]; rfl
    refine kind_by w es h i (by omega) 69 _ fun j x u hx hu => ?_
    have hlt : j < 16 := by
      rcases Nat.lt_or_ge j 16 with h' | h'
      · exact h'
      · rw [List.getElem?_eq_none (by omega)] at hx; cases hx
    have blk : ∀ (m : Nat) (y : Addr), m < 16 → es[m]? = some y → ∃ c t, u.heap[y.block]? = some (.cells c t (0, 0)) := fun m y hm hy => by
      obtain ⟨_, c, t, hc⟩ := (h.each m _ y (List.getElem?_eq_getElem (by show m < 16; exact hm)) hy).below hu
      exact ⟨c, t, hc⟩
    have e1 : decide (j = i) = decide (es.getD i ⟨0, 0, none⟩ = x) := by
      by_cases hji : j = i
      · subst hji
        have := Option.some.inj (hi.symm.trans hx)
        rw [this]; simp
      · have : es.getD i ⟨0, 0, none⟩ ≠ x := fun e => hji (nodup_at h.nodup hx (by rw [← e]; exact hi))
        simp [hji]
        simpa using this
    rw [e1]
    exact is_found _ x p u fun _ => ⟨blk i _ (by omega) hi, blk j x hlt hx⟩
end Go.Proofs.YtoggnfadfocogaaDoor
