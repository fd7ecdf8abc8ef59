/- Lemmas that the proof leans on. -/
import Derived.Test.YtpbgbpcdohdecaaGreatDoorB33
namespace Go.Proofs.YtpbgbpcdohdecaaGreatDoor
open Go Go.RowKit
set_option maxRecDepth 100000
section
theorem kind_by (w : World) (es : List Addr) (h : Errs w gerrs es) (k : Nat) (hk : k < 16) (t : TypeId) (v : Value)
  (ha : ∀ (j : Nat) (x : Addr) (u : World), es[j]? = some x → Below w.heap.size w u → Calls Tryz.prog 32 #[.iface t v, .iface 392 (.pointer (some x))] u fun e w' => e = .returned (.bool (decide (j = k))) ∧ Below u.heap.size u w') :
  Calls Tryz.prog 15 #[.iface t v] w fun e w' => e = .returned (.int .i64 (k + 1 : Nat)) ∧ Below w.heap.size w w' := by
 obtain ⟨x0, x1, x2, x3, x4, x5, x6, x7, x8, x9, x10, x11, x12, x13, x14, x15, rfl⟩ := len16 h.len
 have c0 := (h.each 0 _ _ rfl rfl).1
 have c1 := (h.each 1 _ _ rfl rfl).1
 have c2 := (h.each 2 _ _ rfl rfl).1
 have c3 := (h.each 3 _ _ rfl rfl).1
 have c4 := (h.each 4 _ _ rfl rfl).1
 have c5 := (h.each 5 _ _ rfl rfl).1
 have c6 := (h.each 6 _ _ rfl rfl).1
 have c7 := (h.each 7 _ _ rfl rfl).1
 have c8 := (h.each 8 _ _ rfl rfl).1
 have c9 := (h.each 9 _ _ rfl rfl).1
 have c10 := (h.each 10 _ _ rfl rfl).1
 have c11 := (h.each 11 _ _ rfl rfl).1
 have c12 := (h.each 12 _ _ rfl rfl).1
 have c13 := (h.each 13 _ _ rfl rfl).1
 have c14 := (h.each 14 _ _ rfl rfl).1
 have c15 := (h.each 15 _ _ rfl rfl).1
 have hbel : Below w.heap.size w (w.alloc (.cells #[.iface 392 (.pointer (some x0)), .iface 392 (.pointer (some x1)), .iface 392 (.pointer (some x2)), .iface 392 (.pointer (some x3)), .iface 392 (.pointer (some x4)), .iface 392 (.pointer (some x5)), .iface 392 (.pointer (some x6)), .iface 392 (.pointer (some x7)), .iface 392 (.pointer (some x8)), .iface 392 (.pointer (some x9)), .iface 392 (.pointer (some x10)), .iface 392 (.pointer (some x11)), .iface 392 (.pointer (some x12)), .iface 392 (.pointer (some x13)), .iface 392 (.pointer (some x14)), .iface 392 (.pointer (some x15))] 86)) := (Below.refl _ _).alloc (Nat.le_refl _) _
 have HB : Hid (Below w.heap.size w (w.alloc (.cells #[.iface 392 (.pointer (some x0)), .iface 392 (.pointer (some x1)), .iface 392 (.pointer (some x2)), .iface 392 (.pointer (some x3)), .iface 392 (.pointer (some x4)), .iface 392 (.pointer (some x5)), .iface 392 (.pointer (some x6)), .iface 392 (.pointer (some x7)), .iface 392 (.pointer (some x8)), .iface 392 (.pointer (some x9)), .iface 392 (.pointer (some x10)), .iface 392 (.pointer (some x11)), .iface 392 (.pointer (some x12)), .iface 392 (.pointer (some x13)), .iface 392 (.pointer (some x14)), .iface 392 (.pointer (some x15))] 86))) := hbel
 have HL : Hid (∀ (j : Nat) (x : Addr), [x0, x1, x2, x3, x4, x5, x6, x7, x8, x9, x10, x11, x12, x13, x14, x15][j]? = some x → (w.alloc (.cells #[.iface 392 (.pointer (some x0)), .iface 392 (.pointer (some x1)), .iface 392 (.pointer (some x2)), .iface 392 (.pointer (some x3)), .iface 392 (.pointer (some x4)), .iface 392 (.pointer (some x5)), .iface 392 (.pointer (some x6)), .iface 392 (.pointer (some x7)), .iface 392 (.pointer (some x8)), .iface 392 (.pointer (some x9)), .iface 392 (.pointer (some x10)), .iface 392 (.pointer (some x11)), .iface 392 (.pointer (some x12)), .iface 392 (.pointer (some x13)), .iface 392 (.pointer (some x14)), .iface 392 (.pointer (some x15))] 86)).cell? ⟨w.heap.size, j, none⟩ = some (.iface 392 (.pointer (some x)))) := by
  intro j x hx
  have e : (#[.iface 392 (.pointer (some x0)), .iface 392 (.pointer (some x1)), .iface 392 (.pointer (some x2)), .iface 392 (.pointer (some x3)), .iface 392 (.pointer (some x4)), .iface 392 (.pointer (some x5)), .iface 392 (.pointer (some x6)), .iface 392 (.pointer (some x7)), .iface 392 (.pointer (some x8)), .iface 392 (.pointer (some x9)), .iface 392 (.pointer (some x10)), .iface 392 (.pointer (some x11)), .iface 392 (.pointer (some x12)), .iface 392 (.pointer (some x13)), .iface 392 (.pointer (some x14)), .iface 392 (.pointer (some x15))] : Array Value)[j]? = some (.iface 392 (.pointer (some x))) := by
   have : ([x0, x1, x2, x3, x4, x5, x6, x7, x8, x9, x10, x11, x12, x13, x14, x15].map fun y => Value.iface 392 (.pointer (some y)))[j]? = some (.iface 392 (.pointer (some x))) := by rw [List.getElem?_map, hx]; rfl
   simpa using this
  rw [World.cell?_alloc_at _ _ _ _ rfl]
  exact e
 clear hbel
 have HE : Hid (Errs w gerrs [x0, x1, x2, x3, x4, x5, x6, x7, x8, x9, x10, x11, x12, x13, x14, x15]) := h
 have HA : Hid (∀ (j : Nat) (x : Addr) (u : World), [x0, x1, x2, x3, x4, x5, x6, x7, x8, x9, x10, x11, x12, x13, x14, x15][j]? = some x → Below w.heap.size w u → Calls Tryz.prog 32 #[.iface t v, .iface 392 (.pointer (some x))] u fun e w' => e = .returned (.bool (decide (j = k))) ∧ Below u.heap.size u w') := ha
 clear h ha
 go_enter Tryz.func15, Tryz.ntmps15
 go_wp2
 clear c0 c1 c2 c3 c4 c5 c6 c7 c8 c9 c10 c11 c12 c13 c14 c15
 generalize hW : w.alloc (.cells #[.iface 392 (.pointer (some x0)), .iface 392 (.pointer (some x1)), .iface 392 (.pointer (some x2)), .iface 392 (.pointer (some x3)), .iface 392 (.pointer (some x4)), .iface 392 (.pointer (some x5)), .iface 392 (.pointer (some x6)), .iface 392 (.pointer (some x7)), .iface 392 (.pointer (some x8)), .iface 392 (.pointer (some x9)), .iface 392 (.pointer (some x10)), .iface 392 (.pointer (some x11)), .iface 392 (.pointer (some x12)), .iface 392 (.pointer (some x13)), .iface 392 (.pointer (some x14)), .iface 392 (.pointer (some x15))] 86) = W at *
 clear hW
 go_loopw [4] (fun i wr => ∃ j : Nat, j ≤ k ∧ i = .int .i64 j ∧ Below W.heap.size W wr) (fun i _ => 16 - (RowKit.intOf i).toNat)
 case atStart => exact ⟨0, Nat.zero_le _, rfl, Below.refl _ _⟩
 case round =>
  obtain ⟨j, hj, rfl, hbw⟩ := hrel
  obtain ⟨x, hx⟩ : ∃ x, [x0, x1, x2, x3, x4, x5, x6, x7, x8, x9, x10, x11, x12, x13, x14, x15][j]? = some x := ⟨_, List.getElem?_eq_getElem (by simp; omega)⟩
  have hl := HL.out j x hx
  have hls := World.block_lt_of_cell? W _ hl
  rw [← hbw.cell hls] at hl
  have HC : Hid (∀ _ : Unit, Calls Tryz.prog 32 #[.iface t v, .iface 392 (.pointer (some x))] wr fun e w' => e = .returned (.bool (decide (j = k))) ∧ Below wr.heap.size wr w') := fun _ => HA.out j x wr hx (HB.out.trans (hbw.mono HB.out.size))
  have HW : Hid (Below W.heap.size W wr) := hbw
  have hj16 : (j : Int) < 16 := by omega
  clear hx hls hbw
  by_cases he : j = k
  ·have hd : Hid (decide (j = k) = true) := by show decide _ = true; simp [he]
   have HE' : Hid (j = k) := he
   clear he
   go_wp2_with (go_at_call 32; refine (HC.out ()).mono ?_; rw [hd.out]; rintro e w2 ⟨rfl, hb2⟩)
   go_ret
   refine ⟨ret_int' (by have := HE'.out; omega), ?_⟩
   have h2 : Below W.heap.size W w2 := HW.out.trans (hb2.mono HW.out.size)
   exact HB.out.trans (h2.mono HB.out.size)
  ·have hd : Hid (decide (j = k) = false) := by show decide _ = false; simp [he]
   go_wp2_with (go_at_call 32; refine (HC.out ()).mono ?_; rw [hd.out]; rintro e w2 ⟨rfl, hb2⟩)
   go_roundw
   case rel => exact ⟨j + 1, by omega, by go_num, HW.out.trans (hb2.mono HW.out.size)⟩
   case measure => simp [RowKit.intOf]; omega
end
section
variable {w : World} {es : List Addr} {y v : Value} {o : Int} {k : Nat}
theorem blame_er (h : All w es) (hy : Er_WireB es y k) (h1 : 1 ≤ k) (h2 : k ≤ 16) (o : Int) : Calls Tryz.prog 29 #[.int .i64 o, y] w fun e w' => ∃ v, e = .returned v ∧ FtV w' es v o k ∧ Below w.heap.size w w' := by
 have HA := hid (As_var_FtE w (erv es k) y none (er_chain h.errs hy h1 h2) h.type)
 have HC := hid (fun (u : World) (hb : Below w.heap.size w u) => er_code (h.below hb).errs hy h1 h2)
 have HN := hid (fun (u : World) (hb : Below w.heap.size w u) => er_new (h.below hb) hy h1 h2 o)
 have HB := hid (wP_below_FtE w)
 obtain ⟨t, q, rfl⟩ : ∃ t q, y = .iface t q := by
  obtain ⟨i, rfl⟩ : ∃ i, k = i + 1 := ⟨k - 1, by omega⟩
  rcases hy with rfl | ⟨_, i, rfl⟩ <;> exact ⟨_, _, rfl⟩
 clear h hy h1 h2
 go_enter Tryz.func29, Tryz.ntmps29
 go_wp2_with fail
 refine HA.out.mono ?_
 rintro e w1 ⟨rfl, hb1⟩
 have HB1 := hid (HB.out.trans (hb1.mono HB.out.size))
 clear hb1
 go_wp2_with fail
 refine (HC.out _ HB1.out).mono ?_
 rintro e w2 ⟨rfl, hb2⟩
 have HB2 := hid (Below.on HB1.out hb2)
 clear hb2
 go_wp2_with fail
 refine (HN.out _ HB2.out).mono ?_
 rintro e w3 ⟨v, rfl, hv, hb3⟩
 have HV := hid hv
 have HB3 := hid (Below.on HB2.out hb3)
 clear hv hb3
 go_wp2
 go_ret
 exact ⟨_, rfl, HV.out, HB3.out⟩
theorem blame_ft (h : FtV w es v o k) (hA : All w es) (o' : Int) : Calls Tryz.prog 29 #[.int .i64 o', v] w fun e w' => e = .returned v ∧ Below w.heap.size w w' := by
 obtain ⟨b, rfl, hc⟩ := h.chain hA.errs
 have HA := hid (As_var_FtE w (erv es k) (eF_FtA b) (some b) hc hA.type)
 have HB := hid (wP_below_FtE w)
 clear h hA hc
 go_enter Tryz.func29, Tryz.ntmps29
 go_wp2_with fail
 refine HA.out.mono ?_
 rintro e w1 ⟨rfl, hb1, _⟩
 have HB1 := hid (HB.out.trans hb1)
 clear hb1
 go_wp2
 go_ret
 exact ⟨rfl, HB1.out⟩
theorem FtV.kind (h : FtV w es v o k) (hE : Errs w gerrs es) : Calls Tryz.prog 15 #[v] w fun e w' => e = .returned (.int .i64 k) ∧ Below w.heap.size w w' := by
 have h1 := h.lo
 have h2 := h.hi
 obtain ⟨b, hv, _⟩ := h.chain hE
 subst hv
 obtain ⟨i, rfl⟩ : ∃ i, k = i + 1 := ⟨k - 1, by omega⟩
 refine kind_by w es hE i (by omega) 138 (.pointer (some ⟨b, 0, none⟩)) fun j x u hx hu => ?_
 have hl : es.length = 16 := hE.len
 have hj : j < 16 := by
  rcases Nat.lt_or_ge j 16 with h' | h'
  ·exact h'
  ·rw [List.getElem?_eq_none (by omega)] at hx; cases hx
 have he : erv es (j + 1) = eS_FtA x := by
  show Value.iface _ _ = Value.iface _ _
  rw [List.getD, hx]
  rfl
 obtain ⟨b', hv', hc⟩ := (h.on hu).chain (hE.below hu)
 cases hv'
 have := Is_kind_FtG u es (hE.below hu) (erv es (i + 1)) (eF_FtA b) (some b) (i + 1) (j + 1) hc (leafOf h1 h2) (by omega) (by omega)
 rw [he] at this
 refine this.mono fun _ _ ⟨h3, h4⟩ => ⟨?_, h4⟩
 rw [h3]
 have e : decide (i + 1 = j + 1) = decide (j = i) := by
  rw [decide_eq_decide]
  omega
 rw [e]
end
end Go.Proofs.YtpbgbpcdohdecaaGreatDoor
