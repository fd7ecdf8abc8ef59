/- The contracts of the program's memory: Read, Word. -/
import Derived.Test.YtbolncddklgecaaDoorMemD
import Derived.Laws.BitsAllLaws
namespace Go.Proofs.YtbolncddklgecaaDoor
open Go Go.RowKit

/-- May it be read? -/
def rdOk (q : Mo) (at_ n : Int) : Bool := match q with
  | none => false
  | some q => inn q.2.length at_ n

/-- Read's answer. -/
def ReadIs (w : World) (q : Mo) (at_ n : Int) (e : Ending) (w' : World) : Prop :=
  ∃ v, e = .returned (.tuple #[v, .bool (rdOk q at_ n)]) ∧ Below w.heap.size w w' ∧
    (rdOk q at_ n = false → v = .slice none 0 0) ∧
    (rdOk q at_ n = true → v = .slice (some ⟨w.heap.size, 0, none⟩) n.toNat n.toNat ∧ w'.heap[w.heap.size]? = some (.cells (bc (((by_ q).drop at_.toNat).take n.toNat)).toArray 5 (0, 0)))

set_option maxRecDepth 100000 in
set_option maxHeartbeats 1000000 in
theorem mread_ok (base : Nat) (w : World) (p b : Nat) (s : Int → Mo) (hT : Mm base w p b s) (k : Int) (hi : -9223372036854775808 ≤ k ∧ k ≤ 9223372036854775807) (j n : Nat) (g : Nat) (L : List UInt8) (hq : s k = some (g, L)) (hin : inn L.length j n = true) :
    Calls Tryd.prog 13 #[.pointer (some ⟨p, 0, none⟩), .int .i64 k, .int .i64 j, .int .i64 n] w fun e w' => ReadIs w (s k) j n e w' := by
  obtain ⟨D, ho, hR⟩ := hT.own
  have HO := hid ho
  have HA := hid (hR k)
  have HZ := hid (zSl w)
  have HK := hid (kInt k hi)
  have c0 : w.cell? ⟨p, 0, none⟩ = some (.map (some b)) := by rw [Lib.cell_of_heap hT.var]; rfl
  obtain ⟨r1, r2, r3, r4, r5⟩ := hT.row k _ hq
  simp only at r4 r5
  have h3 := inn_true hin
  have HW := hid (within_any L.length j n w (by omega) (by omega) (by omega))
  rw [hin] at HW
  obtain ⟨w1, hmk, hb1, hg1⟩ := make_any w n (by omega)
  have hgl : g < w.heap.size := (Array.getElem?_eq_some_iff.1 r4).1
  have r41 := (kp_of_below hb1 []).var r4 (by simp)
  have hrd : Rd w1 (some ⟨g, j, none⟩) (L.length - j) (L.length - j) (L.drop j) := by
    refine ⟨by rw [List.length_drop], Nat.le_refl _, by simp only [maxLen]; omega, (fun h => by cases h), fun x hx i u hu => ?_⟩
    cases hx
    rw [Go.WideShapes.add_plain, Lib.cell_of_heap r41]
    rw [bc, List.map_drop, List.getElem?_drop] at hu
    simpa [bc] using hu
  obtain ⟨U, mm, hcp, hU, hkU, _⟩ := copy_row w1 w.heap.size 0 n n (List.replicate n 0) hg1 _ _ _ _ hrd (by simp)
  have hcp2 : L.length - j = 0 → ∀ ty : TypeId, (Builtin.copy_ #[26, 26] ty #[.slice (some ⟨w.heap.size, 0, none⟩) n n, .slice (some ⟨g, 0, none⟩) 0 0]).run Tryd.prog w1 = .ok (goInt mm) U := fun h0 ty => by
    have q1 := hcp ty
    rw [h0, run_copy_none (P := Tryd.prog) w1 26 26 ty 5 _ _ _ _ _ _ Tryd.underlying26 sizeU8 (Nat.zero_min _)] at q1
    rw [run_copy_none (P := Tryd.prog) w1 26 26 ty 5 _ _ _ _ _ _ Tryd.underlying26 sizeU8 (Nat.zero_min _)]
    exact q1
  have hbU : Below w.heap.size w U := hb1.trans (hkU.below hb1.size (fun k hk => by simp only [List.mem_cons, List.not_mem_nil, or_false] at hk; omega))
  have eU : wro (List.replicate n 0) 0 ((L.drop j).take n) = (L.drop j).take n := by
    have h0 : (List.replicate n (0 : UInt8)).drop ((L.drop j).take n).length = [] := List.drop_eq_nil_of_le (by
      rw [List.length_replicate, List.length_take, List.length_drop]
      omega)
    rw [wro, List.take_zero, List.nil_append, Nat.zero_add, h0, List.append_nil]
  rw [eU] at hU
  have HF : Hid (ReadIs w (s k) j n (.returned (.tuple #[.slice (some ⟨w.heap.size, 0, none⟩) n n, .bool true])) U) := by
    have e : rdOk (s k) j n = true := by rw [hq]; exact hin
    refine ⟨.slice (some ⟨w.heap.size, 0, none⟩) n n, by rw [e], hbU, fun h => (by rw [e] at h; cases h), fun _ => ⟨by rw [Int.toNat_natCast], ?_⟩⟩
    rw [hU, hq, Int.toNat_natCast, Int.toNat_natCast]
    rfl
  have HV : Hid (slv (s k) = .slice (some ⟨g, 0, none⟩) L.length L.length) := by rw [hq]; rfl
  have HH : Hid (Maps.has D (.int .i64 k) = true) := by rw [Hid, (hR k).1, hq]; rfl
  generalize L.length = N at *
  clear hT ho hR hq hin hU hkU r4 r41 hbU hrd hg1 hb1 eU
  go_enter Tryd.func13, Tryd.ntmps13
  go_wp2_with (at_lookup; refine wpList_lookup_own_ok _ rfl (.tmp 17) (.tmp 18) 53 rfl 3 26 (Maps.int_keyed Tryd.underlying3) Tryd.underlying53 slR HZ.out _ _ (slR_mk none) b 255 D rfl HO.out _ _ rfl HK.out ?_; intro v ps hv; rw [show dtm none = DataW.nil from rfl, HA.out.2] at hv; obtain rfl := slR_inv hv; rw [HH.out, HV.out]; clear hv)
  refine HW.out.mono ?_
  rintro e w1 ⟨rfl, rfl⟩
  go_wp2
  all_goals
    go_ret2
    exact HF.out

set_option maxRecDepth 100000 in
theorem mread_any (base : Nat) (w : World) (p b : Nat) (s : Int → Mo) (hT : Mm base w p b s) (k : Int) (hi : -9223372036854775808 ≤ k ∧ k ≤ 9223372036854775807) (j n : Int) (hj : -9223372036854775808 ≤ j ∧ j ≤ 9223372036854775807) (hn : -9223372036854775808 ≤ n ∧ n ≤ 9223372036854775807) :
    Calls Tryd.prog 13 #[.pointer (some ⟨p, 0, none⟩), .int .i64 k, .int .i64 j, .int .i64 n] w fun e w' => ReadIs w (s k) j n e w' := by
  obtain ⟨D, ho, hR⟩ := hT.own
  have HO := hid ho
  have HA := hid (hR k)
  have HZ := hid (zSl w)
  have HK := hid (kInt k hi)
  have c0 : w.cell? ⟨p, 0, none⟩ = some (.map (some b)) := by rw [Lib.cell_of_heap hT.var]; rfl
  have no : rdOk (s k) j n = false → Hid (ReadIs w (s k) j n (.returned (.tuple #[.slice none 0 0, .bool false])) w) := fun h => ⟨_, by rw [h], Below.refl _ _, fun _ => rfl, fun h' => by rw [h] at h'; cases h'⟩
  cases hq : s k with
  | none =>
    rw [hq] at no
    have HF := no rfl
    have HV : Hid (slv (s k) = .slice none 0 0) := by rw [hq]; rfl
    have HH : Hid (Maps.has D (.int .i64 k) = false) := by rw [Hid, (hR k).1, hq]; rfl
    clear hT ho hR hq no
    go_enter Tryd.func13, Tryd.ntmps13
    go_wp2_with (at_lookup; refine wpList_lookup_own_ok _ rfl (.tmp 17) (.tmp 18) 53 rfl 3 26 (Maps.int_keyed Tryd.underlying3) Tryd.underlying53 slR HZ.out _ _ (slR_mk none) b 255 D rfl HO.out _ _ rfl HK.out ?_; intro v ps hv; rw [show dtm none = DataW.nil from rfl, HA.out.2] at hv; obtain rfl := slR_inv hv; rw [HH.out, HV.out]; clear hv)
    go_ret2
    exact HF.out
  | some q =>
    obtain ⟨g, L⟩ := q
    by_cases hin : inn L.length j n = true
    · obtain ⟨j, rfl⟩ : ∃ m : Nat, j = m := ⟨j.toNat, by have := inn_true hin; omega⟩
      obtain ⟨n, rfl⟩ : ∃ m : Nat, n = m := ⟨n.toNat, by have := inn_true hin; omega⟩
      have := mread_ok base w p b s hT k hi j n g L hq hin
      rw [hq] at this
      exact this
    · obtain ⟨r1, r2, r3, r4, r5⟩ := hT.row k _ hq
      simp only at r5
      have hin := Bool.eq_false_iff.2 hin
      have HW := hid (within_any L.length j n w (by omega) (by omega) (by omega))
      rw [hin] at HW
      rw [hq] at no
      have HF := no hin
      have HV : Hid (slv (s k) = .slice (some ⟨g, 0, none⟩) L.length L.length) := by rw [hq]; rfl
      have HH : Hid (Maps.has D (.int .i64 k) = true) := by rw [Hid, (hR k).1, hq]; rfl
      generalize ReadIs w (some (g, L)) j n = RI at *
      generalize L.length = N at *
      clear hT ho hR hq hin r4 no
      go_enter Tryd.func13, Tryd.ntmps13
      go_wp2_with (at_lookup; refine wpList_lookup_own_ok _ rfl (.tmp 17) (.tmp 18) 53 rfl 3 26 (Maps.int_keyed Tryd.underlying3) Tryd.underlying53 slR HZ.out _ _ (slR_mk none) b 255 D rfl HO.out _ _ rfl HK.out ?_; intro v ps hv; rw [show dtm none = DataW.nil from rfl, HA.out.2] at hv; obtain rfl := slR_inv hv; rw [HH.out, HV.out]; clear hv)
      refine HW.out.mono ?_
      rintro e w1 ⟨rfl, rfl⟩
      go_wp2
      exact HF.out

theorem or_add (i a b : Nat) (h : a < 2 ^ i) : a ||| b * 2 ^ i = a + b * 2 ^ i := by
  rw [Nat.or_comm, Nat.mul_comm, ← Nat.two_pow_add_eq_or_of_lt h b, Nat.add_comm]
theorem orI (i a b : Nat) (h : a < 2 ^ i) (h2 : a + b * 2 ^ i < 4294967296) : bits BinOp.or IntKind.u32 (a : Int) ((b * 2 ^ i : Nat) : Int) = ((a + b * 2 ^ i : Nat) : Int) := by
  rw [u32_or_nat _ _ (by omega) (by omega), or_add i a b h]

theorem or5 (z0 z1 z2 z3 : Nat) (b0 : z0 < 256) (b1 : z1 < 256) (b2 : z2 < 256) (b3 : z3 < 256) :
    bits BinOp.or IntKind.u32 (bits BinOp.or IntKind.u32 (bits BinOp.or IntKind.u32 (bits BinOp.or IntKind.u32 0 (z0 : Int)) ((z1 : Int) * 256)) ((z2 : Int) * 65536)) ((z3 : Int) * 16777216) = ((z0 + z1 * 256 + z2 * 65536 + z3 * 16777216 : Nat) : Int) := by
  have e0 : bits BinOp.or IntKind.u32 0 (z0 : Int) = (z0 : Int) := by
    have := u32_or_nat 0 z0 (by omega) (by omega)
    rw [Nat.zero_or] at this
    exact this
  have e1 := orI 8 z0 z1 b0 (by omega)
  have e2 := orI 16 (z0 + z1 * 256) z2 (by omega) (by omega)
  have e3 := orI 24 (z0 + z1 * 256 + z2 * 65536) z3 (by omega) (by omega)
  rw [show ((z1 * 2 ^ 8 : Nat) : Int) = (z1 : Int) * 256 by omega] at e1
  rw [show ((z2 * 2 ^ 16 : Nat) : Int) = (z2 : Int) * 65536 by omega] at e2
  rw [show ((z3 * 2 ^ 24 : Nat) : Int) = (z3 : Int) * 16777216 by omega] at e3
  rw [e0, e1, e2, e3]
theorem ret_num {k : IntKind} {a b : Int} (h : a = b) : Ending.returned (.int k a) = .returned (.int k b) := by rw [h]

set_option maxRecDepth 100000 in
set_option maxHeartbeats 1000000 in
theorem mword_any (base : Nat) (w : World) (p b : Nat) (s : Int → Mo) (hT : Mm base w p b s) (k : Int) (hi : -9223372036854775808 ≤ k ∧ k ≤ 9223372036854775807) (j : Int) (hj : -9223372036854775808 ≤ j ∧ j ≤ 9223372036854775807) :
    Calls Tryd.prog 20 #[.pointer (some ⟨p, 0, none⟩), .int .i64 k, .int .i64 j] w fun e w' => e = .returned (.int .u32 (wd (by_ (s k)) j : Nat)) ∧ w' = w := by
  obtain ⟨D, ho, hR⟩ := hT.own
  have HO := hid ho
  have HA := hid (hR k)
  have HZ := hid (zSl w)
  have HK := hid (kInt k hi)
  have c0 : w.cell? ⟨p, 0, none⟩ = some (.map (some b)) := by rw [Lib.cell_of_heap hT.var]; rfl
  obtain ⟨ao, m, hv, hrd, hm⟩ := hT.rd k
  have HV := hid hv
  have hlen := hrd.len
  generalize by_ (s k) = l at *
  by_cases h1 : (m : Int) ≤ j
  · have e1 : decide ((m : Int) ≤ j) = true := decide_eq_true h1
    have HW : Hid (wd l j = 0) := wd_far l j (by omega)
    clear hT ho hR hv hrd
    go_enter Tryd.func20, Tryd.ntmps20
    go_wp2_with (at_lookup; refine wpList_lookup_own _ rfl (.tmp 13) (.tmp 14) 53 rfl 3 26 (Maps.int_keyed Tryd.underlying3) Tryd.underlying53 slR HZ.out _ _ (slR_mk none) b 255 D rfl HO.out _ _ rfl HK.out ?_; intro v ps hv; rw [show dtm none = DataW.nil from rfl, HA.out.2] at hv; obtain rfl := slR_inv hv; rw [HV.out]; clear hv)
    go_ret
    rw [HW.out]
    exact ⟨rfl, rfl⟩
  · have e1 : decide ((m : Int) ≤ j) = false := decide_eq_false h1
    have HB := hid (fun i hi => byteAt_any w ao m m l hrd hm i hi)
    have b0 := bt_lt l j
    have b1 := bt_lt l (j + 1)
    have b2 := bt_lt l (j + 2)
    have b3 := bt_lt l (j + 3)
    have HW : Hid (wd l j = bt l j + bt l (j + 1) * 256 + bt l (j + 2) * 65536 + bt l (j + 3) * 16777216) := rfl
    clear hT ho hR hv hrd
    go_enter Tryd.func20, Tryd.ntmps20
    go_wp2_with (at_lookup; refine wpList_lookup_own _ rfl (.tmp 13) (.tmp 14) 53 rfl 3 26 (Maps.int_keyed Tryd.underlying3) Tryd.underlying53 slR HZ.out _ _ (slR_mk none) b 255 D rfl HO.out _ _ rfl HK.out ?_; intro v ps hv; rw [show dtm none = DataW.nil from rfl, HA.out.2] at hv; obtain rfl := slR_inv hv; rw [HV.out]; clear hv)
    refine wp_loop_rounds 5 ?_
    rw [rounds_succ]
    go_wp2_with fail
    refine (HB.out j hj).mono ?_
    rintro e w1 ⟨rfl, rfl⟩
    go_wp2
    rw [rounds_succ]
    go_wp2_with fail
    refine (HB.out (j + 1) (by omega)).mono ?_
    rintro e w1 ⟨rfl, rfl⟩
    go_wp2
    rw [rounds_succ]
    go_wp2_with fail
    refine (HB.out (j + 2) (by omega)).mono ?_
    rintro e w1 ⟨rfl, rfl⟩
    go_wp2
    rw [rounds_succ]
    go_wp2_with fail
    refine (HB.out (j + 3) (by omega)).mono ?_
    rintro e w1 ⟨rfl, rfl⟩
    go_wp2
    rw [rounds_succ]
    go_wp2
    go_ret
    rw [HW.out]
    exact ⟨ret_num (or5 _ _ _ _ b0 b1 b2 b3), rfl⟩
end Go.Proofs.YtbolncddklgecaaDoor
