/- WireLimits' walk: the closed law returns true; nothing that was there is turned. -/
import Derived.Test.YtoggnfadfocogaaDoorWireF
import Derived.Deep.OwnRows
namespace Go.Proofs.YtoggnfadfocogaaDoor.wireLimits
open Go Go.RowKit

theorem conv_one (k : Nat) (hk : k < 256) (u : World) : (convert 27 9 (.slice (some ⟨u.heap.size, 0, none⟩) 1 1)).run Tryd.prog (u.alloc (.cells #[.int .u8 k] 5)) = .ok (.string ⟨#[UInt8.ofNat k]⟩) (u.alloc (.cells #[.int .u8 k] 5)) := by
  have h : Rd (u.alloc (.cells #[.int .u8 k] 5)) (some ⟨u.heap.size, 0, none⟩) 1 1 [UInt8.ofNat k] := by
    refine ⟨rfl, Nat.le_refl _, by decide, (fun h => by cases h), fun x hx j v hv => ?_⟩
    cases hx
    refine cell1 u _ _ j v ?_
    rw [← hv]
    simp only [bc, List.map_cons, List.map_nil, UInt8.toNat_ofNat']
    rw [Nat.mod_eq_of_lt (by simpa using hk)]
  exact h.conv 27 9 5 Tryd.underlying27 Tryd.underlying5 Tryd.underlying9

set_option maxRecDepth 100000 in
theorem one_any (k : Nat) (n : Int) (s : ByteArray) (hk : k < 256) (hn : -9223372036854775808 ≤ n ∧ n ≤ 9223372036854775807) (hs : s.size ≤ 1000) (w : World) (es : List Addr) (hA : w.cell? ⟨2, 0, none⟩ = some (erv es 1)) :
    Calls Tryd.prog 25 #[.int .u8 k, .int .i64 n, .string s] w fun e w' => e = .returned (.bool (suchB k n s.data.toList)) ∧ Below w.heap.size w w' := by
  have hcv := conv_one k hk (w.alloc (.cells #[.int .u8 k, .int .i64 n, .string s] 60))
  have H : Hid (Calls Tryd.prog 20 #[.agg #[.int .i64 1, .int .i64 0, .slice (some ⟨w.heap.size, 0, none⟩) 1 1], .string ⟨#[UInt8.ofNat k]⟩] ((w.alloc (.cells #[.int .u8 k, .int .i64 n, .string s] 60)).alloc (.cells #[.int .u8 k] 5)) fun e w' => ∃ r, e = .returned r ∧ Er es r (noB (suchB k n s.data.toList)) ∧ Below w.heap.size w w') := by
    have hb0 : Below w.heap.size w (w.alloc (.cells #[.int .u8 k, .int .i64 n, .string s] 60)) := (Below.refl _ _).alloc (Nat.le_refl _) _
    have hb1 : Below (w.alloc (.cells #[.int .u8 k, .int .i64 n, .string s] 60)).heap.size (w.alloc (.cells #[.int .u8 k, .int .i64 n, .string s] 60)) ((w.alloc (.cells #[.int .u8 k, .int .i64 n, .string s] 60)).alloc (.cells #[.int .u8 k] 5)) := (Below.refl _ _).alloc (Nat.le_refl _) _
    have hb := Below.on hb0 hb1
    have hr : RdA ((w.alloc (.cells #[.int .u8 k, .int .i64 n, .string s] 60)).alloc (.cells #[.int .u8 k] 5)) (some ⟨w.heap.size, 0, none⟩) 1 1 [⟨k, n, s⟩] := by
      have hr0 : RdA (w.alloc (.cells #[.int .u8 k, .int .i64 n, .string s] 60)) (some ⟨w.heap.size, 0, none⟩) 1 1 [⟨k, n, s⟩] := by
        refine ⟨rfl, Nat.le_refl _, by decide, (fun h => by cases h), fun x hx j u hu => ?_, fun x hx => ?_⟩
        · cases hx
          match j, hu with
          | 0, hu => cases hu; simp [Addr.add]
          | 1, hu => cases hu; simp [Addr.add]
          | 2, hu => cases hu; simp [Addr.add]
          | j + 3, hu => simp [acs, ac] at hu
        · simp only [List.mem_cons, List.not_mem_nil, or_false] at hx
          subst hx
          exact ⟨hk, hn.1, hn.2, by show s.size ≤ maxLen; simp only [maxLen]; omega⟩
      exact hr0.below hb1 hr0.low
    refine (check_any 1 0 _ 1 1 _ ⟨#[UInt8.ofNat k]⟩ _ hr (fun x hx => by simp only [List.mem_cons, List.not_mem_nil, or_false] at hx; subst hx; show s.size ≤ _; omega) (by decide) es (by rw [hb.cell (World.block_lt_of_cell? w _ hA)]; exact hA)).mono ?_
    rintro e w' ⟨r, rfl, h1, h2⟩
    have e0 : chk 1 0 [⟨k, n, s⟩] (ByteArray.mk #[UInt8.ofNat k]).data.toList = suchB k n s.data.toList := by
      have ek : (UInt8.ofNat k).toNat = k := by rw [UInt8.toNat_ofNat', Nat.mod_eq_of_lt (by simpa using hk)]
      show (headOk 1 0 && (okArg k n s.data.toList (UInt8.ofNat k).toNat && true)) = _
      rw [ek, okArg]
      simp [headOk]
    rw [e0] at h1
    exact ⟨_, rfl, h1, Below.on hb h2⟩
  simp only [World.size_alloc] at hcv
  generalize suchB k n s.data.toList = q at *
  clear hA hs hn
  cases q with
  | true =>
    go_enter Tryd.func25, Tryd.ntmps25
    go_wp2_with fail
    refine H.out.mono ?_
    rintro e w1 ⟨r, rfl, he, b1⟩
    obtain rfl := he.nil
    clear he
    go_wp2
    go_ret
    exact ⟨rfl, b1⟩
  | false =>
    go_enter Tryd.func25, Tryd.ntmps25
    go_wp2_with fail
    refine H.out.mono ?_
    rintro e w1 ⟨r, rfl, he, b1⟩
    obtain ⟨t, v, rfl⟩ := he.some
    clear he
    go_wp2
    go_ret
    exact ⟨rfl, b1⟩
/-- A text of 200 bytes 0. -/
def longL : List UInt8 := List.replicate 200 0
theorem long_conv (u : World) : (convert 27 9 (.slice (some ⟨u.heap.size, 0, none⟩) 200 200)).run Tryd.prog (u.alloc (.cells (madeCells #[.int .u8 0] 200) 5)) = .ok (.string ⟨longL.toArray⟩) (u.alloc (.cells (madeCells #[.int .u8 0] 200) 5)) := by
  have h : Rd (u.alloc (.cells (madeCells #[.int .u8 0] 200) 5)) (some ⟨u.heap.size, 0, none⟩) 200 200 longL := by
    refine ⟨by rw [longL, List.length_replicate], Nat.le_refl _, by decide, (fun h => by cases h), fun x hx j v hv => ?_⟩
    cases hx
    have hj : j < 200 := by
      rcases Nat.lt_or_ge j 200 with h' | h'
      · exact h'
      · rw [List.getElem?_eq_none (by rw [bc_length, longL, List.length_replicate]; exact h')] at hv; cases hv
    have e : v = .int .u8 0 := by
      rw [bc, List.getElem?_map, longL, List.getElem?_replicate, if_pos hj] at hv
      cases hv
      rfl
    subst e
    rw [Go.WideShapes.add_plain, Nat.zero_add]
    exact (World.rowIs_made u (.int .u8 0) 200 5).cell hj
  exact h.conv 27 9 5 Tryd.underlying27 Tryd.underlying5 Tryd.underlying9

theorem long_facts (L : ByteArray) (h : L = ⟨longL.toArray⟩) : L.size = 200 ∧ suchB 97 0 L.data.toList = true ∧ suchB 97 0 (L ++ ⟨#[120]⟩).data.toList = false ∧ suchB 115 0 L.data.toList = false ∧ (L ++ ⟨#[120]⟩).size ≤ 1000 := by
  subst h
  decide +kernel

set_option maxRecDepth 100000 in
set_option maxHeartbeats 4000000 in
theorem core (w : World) (es : List Addr) (hA : w.cell? ⟨2, 0, none⟩ = some (erv es 1)) (hB : w.cell? ⟨0, 0, none⟩ = some (erv es 4)) :
    Calls Tryd.prog 7 #[] w fun e w' => e = .returned (.bool true) ∧ Below w.heap.size w w' := by
  have hmk : ∀ u : World, (Instr.makeSlice 27 (.int .i64 200) (.int .i64 200)).run Tryd.prog u = .ok (.slice (some ⟨u.heap.size, 0, none⟩) 200 200) (u.alloc (.cells (madeCells #[.int .u8 0] 200) 5)) := fun u => run_make_row' (P := Tryd.prog) 27 5 (.int .u8 0) 1 Tryd.underlying27 infoU8 rfl .i64 .i64 200 (by decide) (by decide) u
  have hcv := long_conv w
  generalize madeCells #[.int .u8 0] 200 = MC at *
  obtain ⟨L, hL⟩ : ∃ L : ByteArray, L = ⟨longL.toArray⟩ := ⟨_, rfl⟩
  obtain ⟨f0, f1, f2, f3, f5⟩ := long_facts L hL
  rw [← hL] at hcv
  clear hL
  have HO : Hid (∀ (u : World) (_ : Below w.heap.size w u) (k : Nat) (n : Int) (s : ByteArray) (q : Bool), k < 256 → (-9223372036854775808 ≤ n ∧ n ≤ 9223372036854775807) → s.size ≤ 1000 → suchB k n s.data.toList = q → Calls Tryd.prog 25 #[.int .u8 k, .int .i64 n, .string s] u fun e w' => e = .returned (.bool q) ∧ Below w.heap.size w w') := fun u hu k n s q hk hn hs hq => by
    subst hq
    refine (one_any k n s hk hn hs u es (by rw [hu.cell (World.block_lt_of_cell? w _ hA)]; exact hA)).mono ?_
    rintro e w' ⟨rfl, hb⟩
    exact ⟨rfl, Below.on hu hb⟩
  have HC : Hid (∀ (u : World) (_ : Below w.heap.size w u) (o p : Int) (k : Nat), noB (headOk o p) = k → Calls Tryd.prog 20 #[.agg #[.int .i64 o, .int .i64 p, .slice none 0 0], .string ⟨#[]⟩] u fun e w' => ∃ r, e = .returned r ∧ Er es r k ∧ Below w.heap.size w w') := fun u hu o p k hk => by
    refine (check_any o p none 0 0 [] ⟨#[]⟩ u (RdA.nil u) (fun x hx => by cases hx) (by decide) es (by rw [hu.cell (World.block_lt_of_cell? w _ hA)]; exact hA)).mono ?_
    rintro e w' ⟨r, rfl, h1, h2⟩
    rw [show chk o p [] (ByteArray.mk #[]).data.toList = headOk o p by show (headOk o p && true) = _; rw [Bool.and_true], hk] at h1
    exact ⟨_, rfl, h1, Below.on hu h2⟩
  have HW : Hid (∀ u, Below w.heap.size w u → Calls Tryd.prog 10 #[] u fun e w' => e = .returned (.bool true) ∧ Below w.heap.size w w') := fun u hu => by
    refine (awake4_two u es (by rw [hu.cell (World.block_lt_of_cell? w _ hA)]; exact hA) (by rw [hu.cell (World.block_lt_of_cell? w _ hB)]; exact hB)).mono ?_
    rintro e w' ⟨rfl, hb⟩
    exact ⟨rfl, Below.on hu hb⟩
  obtain ⟨L1, g1⟩ : ∃ L1 : ByteArray, L ++ ⟨#[120]⟩ = L1 := ⟨_, rfl⟩
  rw [g1] at f2 f5
  have F : Hid (suchB 97 0 L.data.toList = true ∧ suchB 97 0 L1.data.toList = false ∧ suchB 115 0 L.data.toList = false ∧ L1.size ≤ 1000) := ⟨f1, f2, f3, f5⟩
  have b0 : Below w.heap.size w (w.alloc (.cells MC 5)) := (Below.refl _ _).alloc (Nat.le_refl _) _
  clear hA hB f1 f2 f3 f5
  go_enter Tryd.func7, Tryd.ntmps7
  go_wp2_with fail
  generalize w.alloc (.cells MC 5) = w0 at *
  clear hmk hcv
  refine (HO.out w0 b0 105 2147483647 ⟨#[]⟩ true (by decide) (by decide) (by decide) (by decide)).mono ?_
  rintro e w1 ⟨rfl, b1⟩
  clear b0
  go_wp2_with fail
  refine (HO.out w1 b1 105 2147483648 ⟨#[]⟩ false (by decide) (by decide) (by decide) (by decide)).mono ?_
  rintro e w2 ⟨rfl, b2⟩
  clear b1
  go_wp2_with fail
  refine (HO.out w2 b2 102 (-2147483648) ⟨#[]⟩ true (by decide) (by decide) (by decide) (by decide)).mono ?_
  rintro e w3 ⟨rfl, b3⟩
  clear b2
  go_wp2_with fail
  refine (HO.out w3 b3 102 (-2147483649) ⟨#[]⟩ false (by decide) (by decide) (by decide) (by decide)).mono ?_
  rintro e w4 ⟨rfl, b4⟩
  clear b3
  go_wp2_with fail
  refine (HO.out w4 b4 117 4294967295 ⟨#[]⟩ true (by decide) (by decide) (by decide) (by decide)).mono ?_
  rintro e w5 ⟨rfl, b5⟩
  clear b4
  go_wp2_with fail
  refine (HO.out w5 b5 117 4294967296 ⟨#[]⟩ false (by decide) (by decide) (by decide) (by decide)).mono ?_
  rintro e w6 ⟨rfl, b6⟩
  clear b5
  go_wp2_with fail
  refine (HO.out w6 b6 117 (-1) ⟨#[]⟩ false (by decide) (by decide) (by decide) (by decide)).mono ?_
  rintro e w7 ⟨rfl, b7⟩
  clear b6
  go_wp2_with fail
  refine (HO.out w7 b7 111 0 ⟨#[]⟩ true (by decide) (by decide) (by decide) (by decide)).mono ?_
  rintro e w8 ⟨rfl, b8⟩
  clear b7
  go_wp2_with fail
  refine (HO.out w8 b8 110 0 ⟨#[]⟩ false (by decide) (by decide) (by decide) (by decide)).mono ?_
  rintro e w9 ⟨rfl, b9⟩
  clear b8
  go_wp2_with fail
  refine (HO.out w9 b9 110 1 ⟨#[]⟩ true (by decide) (by decide) (by decide) (by decide)).mono ?_
  rintro e w10 ⟨rfl, b10⟩
  clear b9
  go_wp2_with fail
  refine (HO.out w10 b10 97 0 L true (by decide) (by decide) (by rw [f0]; decide) F.out.1).mono ?_
  rintro e w11 ⟨rfl, b11⟩
  clear b10
  go_wp2_with fail
  refine (HO.out w11 b11 97 0 L1 false (by decide) (by decide) F.out.2.2.2 F.out.2.1).mono ?_
  rintro e w12 ⟨rfl, b12⟩
  clear b11
  go_wp2_with fail
  refine (HO.out w12 b12 115 0 L false (by decide) (by decide) (by rw [f0]; decide) F.out.2.2.1).mono ?_
  rintro e w13 ⟨rfl, b13⟩
  clear b12
  go_wp2_with fail
  refine (HO.out w13 b13 115 0 ⟨#[120]⟩ true (by decide) (by decide) (by decide) (by decide)).mono ?_
  rintro e w14 ⟨rfl, b14⟩
  clear b13
  go_wp2_with fail
  refine (HO.out w14 b14 115 1 ⟨#[120]⟩ false (by decide) (by decide) (by decide) (by decide)).mono ?_
  rintro e w15 ⟨rfl, b15⟩
  clear b14
  go_wp2_with fail
  refine (HO.out w15 b15 117 1 ⟨#[120]⟩ false (by decide) (by decide) (by decide) (by decide)).mono ?_
  rintro e w16 ⟨rfl, b16⟩
  clear b15
  go_wp2_with fail
  refine (HO.out w16 b16 120 0 ⟨#[]⟩ false (by decide) (by decide) (by decide) (by decide)).mono ?_
  rintro e w17 ⟨rfl, b17⟩
  clear b16
  go_wp2_with fail
  refine (HC.out w17 b17 4294967295 65535 0 (by decide)).mono ?_
  rintro e w18 ⟨r, rfl, he, b18⟩
  obtain rfl := he.nil
  clear he b17
  go_wp2_with fail
  refine (HC.out w18 b18 0 0 1 (by decide)).mono ?_
  rintro e w19 ⟨r, rfl, he, b19⟩
  obtain ⟨t1, v1, rfl⟩ := he.some
  clear he b18
  go_wp2_with fail
  refine (HC.out w19 b19 4294967296 0 1 (by decide)).mono ?_
  rintro e w20 ⟨r, rfl, he, b20⟩
  obtain ⟨t2, v2, rfl⟩ := he.some
  clear he b19
  go_wp2_with fail
  refine (HC.out w20 b20 1 65536 1 (by decide)).mono ?_
  rintro e w21 ⟨r, rfl, he, b21⟩
  obtain ⟨t3, v3, rfl⟩ := he.some
  clear he b20
  go_wp2_with fail
  refine (HW.out w21 b21).mono ?_
  rintro e w99 ⟨rfl, b99⟩
  go_wp2
  go_ret
  exact ⟨rfl, b99⟩

/-- The two listed variables. -/
theorem errs2 {W : World} (h : laidMetH Tryd.prog Rows.wireLimitsRow.laid W) : ∃ es, W.cell? ⟨2, 0, none⟩ = some (erv es 1) ∧ W.cell? ⟨0, 0, none⟩ = some (erv es 4) := by
  have h' : laidMetH Tryd.prog ([L16[0], L16[3]].map fun x => (x.1, x.2.1)) W := h
  rw [MakeChecks.laidMetH_plain _ _ _ (by kernel_rfl)] at h'
  obtain ⟨es, he⟩ := errs_of_laid [L16[0], L16[3]] (fun x hx => laid16 x (by
    simp only [List.mem_cons, List.not_mem_nil, or_false] at hx
    rcases hx with rfl | rfl
    · exact List.getElem_mem _
    · exact List.getElem_mem _)) h'
  have hl : es.length = 2 := he.len
  match es, hl with
  | [x, y], _ => exact ⟨[x, x, x, y], (he.each 0 _ x rfl rfl).1, (he.each 1 _ y rfl rfl).1⟩

theorem walk (w : World) (hL : laidMetH Tryd.prog Rows.wireLimitsRow.laid w) :
    Calls Tryd.prog 7 #[] w fun e w' => e = .returned (.bool true) ∧ Below w.heap.size w w' := by
  obtain ⟨es, hA, hB⟩ := errs2 hL
  exact core w es hA hB
end Go.Proofs.YtoggnfadfocogaaDoor.wireLimits
