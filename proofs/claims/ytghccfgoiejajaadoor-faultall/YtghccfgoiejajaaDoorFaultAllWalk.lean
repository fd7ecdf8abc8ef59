/- FaultAll's walk. -/
import Derived.Test.YtghccfgoiejajaaDoorFltO
set_option linter.unusedSimpArgs false
namespace Go.Proofs.YtghccfgoiejajaaDoor.faultAll
open Go Go.RowKit

set_option maxRecDepth 100000 in
theorem long (a0 a1 a2 a3 : Int) (s4 : ByteArray) (w : World) (es : List Addr) (hA : All w es) (h : ¬ s4.size ≤ 200) :
    Calls Tryd.prog 3 #[.int .i64 a0, .int .i64 a1, .int .i64 a2, .int .i64 a3, .string s4] w fun e w' => e = .returned (.bool true) ∧ Below w.heap.size w w' := by
  have HA : Hid (All w es) := hA
  have g1 : (200 : Int) < s4.size := by omega
  clear hA h
  go_enter Tryd.func3, Tryd.ntmps3
  go_wp2_with fail
  refine (awake_true _ es HA.out).mono ?_
  rintro e w1 ⟨rfl, hb⟩
  have B1 : Hid (Below w.heap.size w w1) := hb
  clear hb
  go_wp2
  go_ret
  exact ⟨rfl, B1.out⟩

set_option maxRecDepth 100000 in
set_option maxHeartbeats 4000000 in
theorem zero (a0 a1 a2 a3 : Int) (s4 : ByteArray) (w : World) (es : List Addr) (hA : All w es) (h4 : s4.size ≤ 200) (hz : a0 < 1 ∨ 16 < a0) :
    Calls Tryd.prog 3 #[.int .i64 a0, .int .i64 a1, .int .i64 a2, .int .i64 a3, .string s4] w fun e w' => e = .returned (.bool true) ∧ Below w.heap.size w w' := by
  have HQ : Hid (∀ w, All w es → Calls Tryd.prog 9 #[.int .i64 a0] w fun e w' => e = .returned .nilIface ∧ Below w.heap.size w w') := fun w h => error_none w es h.errs a0 hz
  have HK : Hid (∀ w, All w es → Calls Tryd.prog 10 #[.nilIface] w fun e w' => e = .returned (.int .i64 0) ∧ Below w.heap.size w w') := fun w h => kind_nil w es h.errs
  obtain ⟨s, hs⟩ : ∃ s : ByteArray, s = ⟨#[]⟩ := ⟨_, rfl⟩
  have HN : Hid (∀ w, All w es → ∀ o c, Calls Tryd.prog 11 #[.int .i64 o, .int .i64 c, .nilIface] w fun e w' => ∃ b, e = .returned (eF b) ∧ Er w' es (eF b) 0 (some b) [] ∧ Fa w' b o c s .nilIface ∧ Below w.heap.size w w') := fun w _ o c => by rw [hs]; exact fNew0 w es o c
  have HS : Hid (s = ⟨#[]⟩) := hs
  clear hz hs
  have HA : Hid (All w es) := hA
  have g1 : ¬ (200 : Int) < s4.size := by omega
  obtain ⟨p, hp, hp6⟩ : ∃ p : Nat, a3 % 6 = p ∧ p < 6 := ⟨(a3 % 6).toNat, by omega, by omega⟩
  have HP : Hid (∀ w, Calls Tryd.prog 12 #[.int .i64 a3, .int .i64 6] w fun e w' => e = .returned (.int .i64 (p : Nat)) ∧ w' = w) := fun w => by
    rw [← hp]; exact place w a3 6 (by decide) (by decide)
  clear hA h4 hp
  go_enter Tryd.func3, Tryd.ntmps3
  go_wp2_with fail
  refine (HQ.out w HA.out).mono ?_
  rintro e w1 ⟨rfl, hb⟩
  have B1 : Hid (Below w.heap.size w w1) := hb
  clear hb
  go_wp2_with fail
  refine (HK.out w1 (HA.out.below B1.out)).mono ?_
  rintro e w2 ⟨rfl, hb⟩
  have B2 : Hid (Below w.heap.size w w2) := Below.on B1.out hb
  clear hb B1
  go_wp2_with fail
  refine (HN.out w2 (HA.out.below B2.out) a1 a2).mono ?_
  rintro e w3 ⟨x0, rfl, hE, hF, hb⟩
  have B3 : Hid (Below w.heap.size w w3) := Below.on B2.out hb
  have E0 : Hid (∃ t, Er w3 es (eF x0) 0 (some x0) t) := ⟨_, hE⟩
  have F0 : Hid (Fa w3 x0 a1 a2 s .nilIface) := hF
  clear hb hE hF B2
  go_wp2
  go_loopw [13, 14] (fun v i wr => ∃ j : Nat, (∃ T q, v = .iface T q) ∧ (j ≤ p ∧ i = .int .i64 j) ∧ (∃ t, Er wr es v 0 (some x0) t) ∧ Fa wr x0 a1 a2 s .nilIface ∧ Below w.heap.size w wr) (fun _ i _ => p - (intOf i).toNat)
  case atStart => exact ⟨0, ⟨_, _, rfl⟩, ⟨by omega, rfl⟩, E0.out, F0.out, B3.out⟩
  case round =>
    obtain ⟨j, ⟨T, q, rfl⟩, ⟨hj, rfl⟩, hE, hF, hb⟩ := hrel
    have B4 : Hid (Below w.heap.size w wr) := hb
    have E4 : Hid (∃ t, Er wr es (.iface T q) 0 (some x0) t) := hE
    have F4 : Hid (Fa wr x0 a1 a2 s .nilIface) := hF
    clear hb hE hF B3 E0 F0
    by_cases hjp : j < p
    · have hlt : (j : Int) < p := by omega
      go_wp2_with fail
      refine (HP.out _).mono ?_
      rintro e w4 ⟨rfl, rfl⟩
      go_wp2_with fail
      obtain ⟨t, hE⟩ := E4.out
      refine (fWrap w4 es _ _ _ _ s4 hE).mono ?_
      rintro e w5 ⟨x5, rfl, hE5, hb⟩
      have HR : Hid ((∃ t, Er w5 es (eW x5) 0 (some x0) t) ∧ Fa w5 x0 a1 a2 s .nilIface ∧ Below w.heap.size w w5) := ⟨⟨_, hE5⟩, F4.out.stays hb, Below.on B4.out hb⟩
      clear hE hE5 hb B4 E4 F4
      go_wp2
      go_round
      case rel => exact ⟨j + 1, ⟨_, _, rfl⟩, ⟨by omega, by go_num⟩, HR.out⟩
      case measure => simp [intOf]; omega
    · have hlt : ¬ (j : Int) < p := by omega
      clear hp6
      go_wp2_with fail
      refine (HP.out _).mono ?_
      rintro e w4 ⟨rfl, rfl⟩
      go_wp2_with fail
      obtain ⟨t, hE⟩ := E4.out
      refine (hE.of (HA.out.below B4.out) F4.out (.inl rfl)).mono ?_
      rintro e w5 ⟨rfl, hb⟩
      have B5 : Hid (Below w.heap.size w w5) := Below.on B4.out hb
      have E5 : Hid (Er w5 es (.iface T q) 0 (some x0) t) := hE.stays hb
      clear hb hE B4 E4 F4
      rw [ofRet]
      have hv := bel_alloc w5 (.cells #[.int .i64 a1, .int .i64 a2, .string s, .nilIface] 31)
      have B6 : Hid (Below w.heap.size w (w5.alloc (.cells #[.int .i64 a1, .int .i64 a2, .string s, .nilIface] 31))) := Below.on B5.out hv
      have V6 : Hid (Fa (w5.alloc (.cells #[.int .i64 a1, .int .i64 a2, .string s, .nilIface] 31)) w5.heap.size a1 a2 s .nilIface) := Fa.var ..
      have E6 : Hid (Er (w5.alloc (.cells #[.int .i64 a1, .int .i64 a2, .string s, .nilIface] 31)) es (.iface T q) 0 (some x0) t) := E5.out.stays hv
      clear hv B5 E5
      go_wp2_with fail
      generalize hn : w5.heap.size = n5 at *
      generalize hW : w5.alloc (.cells #[.int .i64 a1, .int .i64 a2, .string s, .nilIface] 31) = W6 at *
      clear hn hW
      have A6 : All W6 es := HA.out.below B6.out
      have C18 : Hid (∀ u, Below W6.heap.size W6 u → Calls Tryd.prog 15 #[.int .i64 0] u fun e w' => e = .returned (.string s) ∧ Below u.heap.size u w') := fun u _ => by rw [HS.out]; exact refText u 0 (by decide)
      have C24 : Hid (∀ u, Below W6.heap.size W6 u → Calls Tryd.prog 10 #[.nilIface] u fun e w' => e = .returned (.int .i64 0) ∧ Below u.heap.size u w') := fun u hu => HK.out u (A6.below hu)
      have tf0 : ∀ u, Below W6.heap.size W6 u → u.cell? ⟨n5, 0, none⟩ = some (.int .i64 a1) := fun u hu => (V6.out.stays hu).c0
      have tf1 : ∀ u, Below W6.heap.size W6 u → u.cell? ⟨n5, 1, none⟩ = some (.int .i64 a2) := fun u hu => (V6.out.stays hu).c1
      have tf2 : ∀ u, Below W6.heap.size W6 u → u.cell? ⟨n5, 2, none⟩ = some (.string s) := fun u hu => (V6.out.stays hu).c2
      have tf3 : ∀ u, Below W6.heap.size W6 u → u.cell? ⟨n5, 3, none⟩ = some .nilIface := fun u hu => (V6.out.stays hu).c3
      clear A6 V6 HQ HN HP
      refine wp_region_held_drew (S := fun x => Below W6.heap.size W6 x) (by kernel_rfl) (Below.refl _ _).drew (fun hHeld => ?_)
      have hHeld : Below W6.heap.size W6 W6.drew := hHeld
      have bw : Below W6.heap.size W6 W6.drew := (Below.refl _ _).drew
      refine wpAnyH_take (i := 0) (v := ?_) rfl (by kernel_rfl) (by kernel_rfl) (by kernel_rfl) (fun _ _ _ h => h) (Or.inl ⟨by kernel_rfl, ?hy0⟩) (by assumption) ?_
      case hy0 => (intro w hSw; (try dsimp only at hSw); go_simp; try with_reducible rfl)
      try simp only [Act.put, List.getElem_toArray, List.getElem_cons_zero, List.getElem_cons_succ, List.setIfInBounds_toArray, List.set_cons_zero, List.set_cons_succ]
      refine wpAnyH_take (i := 1) (v := ?_) rfl (by kernel_rfl) (by kernel_rfl) (by kernel_rfl) (fun _ _ _ h => h) (Or.inl ⟨by kernel_rfl, ?hy1⟩) (by assumption) ?_
      case hy1 => (intro w hSw; (try dsimp only at hSw); go_simp; try with_reducible rfl)
      try simp only [Act.put, List.getElem_toArray, List.getElem_cons_zero, List.getElem_cons_succ, List.setIfInBounds_toArray, List.set_cons_zero, List.set_cons_succ]
      refine wpAnyH_take (i := 2) (v := ?_) rfl (by kernel_rfl) (by kernel_rfl) (by kernel_rfl) (fun _ _ _ h => h) (Or.inl ⟨by kernel_rfl, ?hy2⟩) (by assumption) ?_
      case hy2 => (intro w hSw; (try dsimp only at hSw); go_simp; try with_reducible rfl)
      try simp only [Act.put, List.getElem_toArray, List.getElem_cons_zero, List.getElem_cons_succ, List.setIfInBounds_toArray, List.set_cons_zero, List.set_cons_succ]
      refine wpAnyH_take (i := 3) (v := ?_) rfl (by kernel_rfl) (by kernel_rfl) (by kernel_rfl) (fun _ _ _ h => h) (Or.inl ⟨by kernel_rfl, ?hy3⟩) (by assumption) ?_
      case hy3 => (intro w hSw; (try dsimp only at hSw); go_simp; try with_reducible rfl)
      try simp only [Act.put, List.getElem_toArray, List.getElem_cons_zero, List.getElem_cons_succ, List.setIfInBounds_toArray, List.set_cons_zero, List.set_cons_succ]
      refine wpAnyH_take (i := 4) (v := ?_) rfl (by kernel_rfl) (by kernel_rfl) (by kernel_rfl) (fun _ _ _ h => h) (Or.inl ⟨by kernel_rfl, ?hy4⟩) (by assumption) ?_
      case hy4 => (intro w hSw; (try dsimp only at hSw); go_simp; try with_reducible rfl)
      try simp only [Act.put, List.getElem_toArray, List.getElem_cons_zero, List.getElem_cons_succ, List.setIfInBounds_toArray, List.set_cons_zero, List.set_cons_succ]
      refine wpAnyH_take (i := 5) (v := ?_) rfl (by kernel_rfl) (by kernel_rfl) (by kernel_rfl) (fun _ _ _ h => h) (Or.inl ⟨by kernel_rfl, ?hy5⟩) (by assumption) ?_
      case hy5 => (intro w hSw; (try dsimp only at hSw); go_simp; try with_reducible rfl)
      try simp only [Act.put, List.getElem_toArray, List.getElem_cons_zero, List.getElem_cons_succ, List.setIfInBounds_toArray, List.set_cons_zero, List.set_cons_succ]
      refine wpAnyH_take (i := 6) (v := ?_) rfl (by kernel_rfl) (by kernel_rfl) (by kernel_rfl) (fun _ _ _ h => h) (Or.inl ⟨by kernel_rfl, ?hy6⟩) (by assumption) ?_
      case hy6 => (intro w hSw; (try dsimp only at hSw); go_simp; try with_reducible rfl)
      try simp only [Act.put, List.getElem_toArray, List.getElem_cons_zero, List.getElem_cons_succ, List.setIfInBounds_toArray, List.set_cons_zero, List.set_cons_succ]
      refine wpAnyH_take (i := 7) (v := ?_) rfl (by kernel_rfl) (by kernel_rfl) (by kernel_rfl) (fun _ _ _ h => h) (Or.inl ⟨by kernel_rfl, ?hy7⟩) (by assumption) ?_
      case hy7 => (intro w hSw; (try dsimp only at hSw); go_simp; try with_reducible rfl)
      try simp only [Act.put, List.getElem_toArray, List.getElem_cons_zero, List.getElem_cons_succ, List.setIfInBounds_toArray, List.set_cons_zero, List.set_cons_succ]
      refine wpAnyH_take (i := 8) (v := ?_) rfl (by kernel_rfl) (by kernel_rfl) (by kernel_rfl) (fun _ _ _ h => h) (Or.inl ⟨by kernel_rfl, ?hy8⟩) (by assumption) ?_
      case hy8 => (intro w hSw; (try dsimp only at hSw); go_simp; try with_reducible rfl)
      try simp only [Act.put, List.getElem_toArray, List.getElem_cons_zero, List.getElem_cons_succ, List.setIfInBounds_toArray, List.set_cons_zero, List.set_cons_succ]
      refine wpAnyH_take (i := 9) (v := ?_) rfl (by kernel_rfl) (by kernel_rfl) (by kernel_rfl) (fun _ _ _ h => h) (Or.inl ⟨by kernel_rfl, ?hy9⟩) (by assumption) ?_
      case hy9 => (intro w hSw; (try dsimp only at hSw); go_simp; try with_reducible rfl)
      try simp only [Act.put, List.getElem_toArray, List.getElem_cons_zero, List.getElem_cons_succ, List.setIfInBounds_toArray, List.set_cons_zero, List.set_cons_succ]
      refine wpAnyH_take (i := 10) (v := ?_) rfl (by kernel_rfl) (by kernel_rfl) (by kernel_rfl) (fun _ _ _ h => h) (Or.inl ⟨by kernel_rfl, ?hy10⟩) (by assumption) ?_
      case hy10 => (intro w hSw; (try dsimp only at hSw); go_simp; try with_reducible rfl)
      try simp only [Act.put, List.getElem_toArray, List.getElem_cons_zero, List.getElem_cons_succ, List.setIfInBounds_toArray, List.set_cons_zero, List.set_cons_succ]
      refine wpAnyH_take (i := 11) (v := ?_) rfl (by kernel_rfl) (by kernel_rfl) (by kernel_rfl) (fun _ _ _ h => h) (Or.inl ⟨by kernel_rfl, ?hy11⟩) (by assumption) ?_
      case hy11 => (intro w hSw; (try dsimp only at hSw); go_simp; try with_reducible rfl)
      try simp only [Act.put, List.getElem_toArray, List.getElem_cons_zero, List.getElem_cons_succ, List.setIfInBounds_toArray, List.set_cons_zero, List.set_cons_succ]
      refine wpAnyH_take (i := 12) (v := ?_) rfl (by kernel_rfl) (by kernel_rfl) (by kernel_rfl) (fun _ _ _ h => h) (Or.inl ⟨by kernel_rfl, ?hy12⟩) (by assumption) ?_
      case hy12 => (intro w hSw; (try dsimp only at hSw); go_simp; try with_reducible rfl)
      try simp only [Act.put, List.getElem_toArray, List.getElem_cons_zero, List.getElem_cons_succ, List.setIfInBounds_toArray, List.set_cons_zero, List.set_cons_succ]
      refine wpAnyH_take (i := 13) (v := ?_) rfl (by kernel_rfl) (by kernel_rfl) (by kernel_rfl) (fun _ _ _ h => h) (Or.inl ⟨by kernel_rfl, ?hy13⟩) (by assumption) ?_
      case hy13 => (intro w hSw; (try dsimp only at hSw); go_simp; try with_reducible rfl)
      try simp only [Act.put, List.getElem_toArray, List.getElem_cons_zero, List.getElem_cons_succ, List.setIfInBounds_toArray, List.set_cons_zero, List.set_cons_succ]
      refine wpAnyH_take (i := 14) (v := ?_) rfl (by kernel_rfl) (by kernel_rfl) (by kernel_rfl) (fun _ _ _ h => h) (Or.inl ⟨by kernel_rfl, ?hy14⟩) (by assumption) ?_
      case hy14 => (intro w hSw; (try dsimp only at hSw); go_simp; try with_reducible rfl)
      try simp only [Act.put, List.getElem_toArray, List.getElem_cons_zero, List.getElem_cons_succ, List.setIfInBounds_toArray, List.set_cons_zero, List.set_cons_succ]
      refine wpAnyH_take (i := 15) (v := ?_) rfl (by kernel_rfl) (by kernel_rfl) (by kernel_rfl) (fun _ _ _ h => h) (Or.inl ⟨by kernel_rfl, ?hy15⟩) (by assumption) ?_
      case hy15 => (intro w hSw; (try dsimp only at hSw); go_simp; try with_reducible rfl)
      try simp only [Act.put, List.getElem_toArray, List.getElem_cons_zero, List.getElem_cons_succ, List.setIfInBounds_toArray, List.set_cons_zero, List.set_cons_succ]
      refine wpAnyH_take (i := 16) (v := ?_) rfl (by kernel_rfl) (by kernel_rfl) (by kernel_rfl) (fun _ _ _ h => h) (Or.inl ⟨by kernel_rfl, ?hy16⟩) (by assumption) ?_
      case hy16 => (intro w hSw; (try dsimp only at hSw); go_simp; try with_reducible rfl)
      try simp only [Act.put, List.getElem_toArray, List.getElem_cons_zero, List.getElem_cons_succ, List.setIfInBounds_toArray, List.set_cons_zero, List.set_cons_succ]
      refine wpAnyH_take (i := 17) (v := ?_) rfl (by kernel_rfl) (by kernel_rfl) (by kernel_rfl) (fun _ _ _ h => h) (Or.inl ⟨by kernel_rfl, ?hy17⟩) (by assumption) ?_
      case hy17 => (intro w hSw; (try dsimp only at hSw); go_simp; try with_reducible rfl)
      try simp only [Act.put, List.getElem_toArray, List.getElem_cons_zero, List.getElem_cons_succ, List.setIfInBounds_toArray, List.set_cons_zero, List.set_cons_succ]
      refine wpAnyH_ready (rs := [18]) (by kernel_rfl) (by simp) ?_
      refine AllReadyH.cons rfl (fun K hK => ?_) AllReadyH.nil
      go_simp
      go_wp2_with fail
      refine (C18.out _ bw).mono ?_
      rintro e u18 ⟨rfl, hb⟩
      have hS' := Below.on hHeld hb
      refine hK.out _ _ hS' (fun _ => ?_)
      clear hK K
      refine wpAnyH_mono (S' := fun x => Below u18.heap.size u18 x) (fun x hx => Below.on hS' hx) ?_
      replace bw := Below.on bw hb
      replace tf0 := fun x hx => tf0 x (Below.on hS' hx)
      replace tf1 := fun x hx => tf1 x (Below.on hS' hx)
      replace tf2 := fun x hx => tf2 x (Below.on hS' hx)
      replace tf3 := fun x hx => tf3 x (Below.on hS' hx)
      clear hHeld hb hS'
      have hHeld : Below u18.heap.size u18 u18 := Below.refl _ _
      refine wpAnyH_take (i := 19) (v := ?_) rfl (by kernel_rfl) (by kernel_rfl) (by kernel_rfl) (fun _ _ _ h => h) (Or.inl ⟨by kernel_rfl, ?hy19⟩) (by assumption) ?_
      case hy19 => (intro w hSw; (try dsimp only at hSw); go_simp; try with_reducible rfl)
      try simp only [Act.put, List.getElem_toArray, List.getElem_cons_zero, List.getElem_cons_succ, List.setIfInBounds_toArray, List.set_cons_zero, List.set_cons_succ]
      refine wpAnyH_take (i := 20) (v := ?_) rfl (by kernel_rfl) (by kernel_rfl) (by kernel_rfl) (fun _ _ _ h => h) (Or.inl ⟨by kernel_rfl, ?hy20⟩) (by assumption) ?_
      case hy20 => (intro w hSw; (try dsimp only at hSw); go_simp; try with_reducible rfl)
      try simp only [Act.put, List.getElem_toArray, List.getElem_cons_zero, List.getElem_cons_succ, List.setIfInBounds_toArray, List.set_cons_zero, List.set_cons_succ]
      refine wpAnyH_take (i := 21) (v := ?_) rfl (by kernel_rfl) (by kernel_rfl) (by kernel_rfl) (fun _ _ _ h => h) (Or.inl ⟨by kernel_rfl, ?hy21⟩) (by assumption) ?_
      case hy21 => (intro w hSw; (try dsimp only at hSw); go_simp; try with_reducible rfl)
      try simp only [Act.put, List.getElem_toArray, List.getElem_cons_zero, List.getElem_cons_succ, List.setIfInBounds_toArray, List.set_cons_zero, List.set_cons_succ]
      refine wpAnyH_take (i := 22) (v := ?_) rfl (by kernel_rfl) (by kernel_rfl) (by kernel_rfl) (fun _ _ _ h => h) (Or.inl ⟨by kernel_rfl, ?hy22⟩) (by assumption) ?_
      case hy22 => (intro w hSw; (try dsimp only at hSw); go_simp; try with_reducible rfl)
      try simp only [Act.put, List.getElem_toArray, List.getElem_cons_zero, List.getElem_cons_succ, List.setIfInBounds_toArray, List.set_cons_zero, List.set_cons_succ]
      refine wpAnyH_take (i := 23) (v := ?_) rfl (by kernel_rfl) (by kernel_rfl) (by kernel_rfl) (fun _ _ _ h => h) (Or.inl ⟨by kernel_rfl, ?hy23⟩) (by assumption) ?_
      case hy23 => (intro w hSw; (try dsimp only at hSw); go_simp; try with_reducible rfl)
      try simp only [Act.put, List.getElem_toArray, List.getElem_cons_zero, List.getElem_cons_succ, List.setIfInBounds_toArray, List.set_cons_zero, List.set_cons_succ]
      refine wpAnyH_take (i := 25) (v := ?_) rfl (by kernel_rfl) (by kernel_rfl) (by kernel_rfl) (fun _ _ _ h => h) (Or.inl ⟨by kernel_rfl, ?hy25⟩) (by assumption) ?_
      case hy25 => (intro w hSw; (try dsimp only at hSw); go_simp; try with_reducible rfl)
      try simp only [Act.put, List.getElem_toArray, List.getElem_cons_zero, List.getElem_cons_succ, List.setIfInBounds_toArray, List.set_cons_zero, List.set_cons_succ]
      refine wpAnyH_ready (rs := [24]) (by kernel_rfl) (by simp) ?_
      refine AllReadyH.cons rfl (fun K hK => ?_) AllReadyH.nil
      go_simp
      go_wp2_with fail
      refine (C24.out _ bw).mono ?_
      rintro e u24 ⟨rfl, hb⟩
      have hS' := Below.on hHeld hb
      refine hK.out _ _ hS' (fun _ => ?_)
      clear hK K
      refine wpAnyH_mono (S' := fun x => Below u24.heap.size u24 x) (fun x hx => Below.on hS' hx) ?_
      replace bw := Below.on bw hb
      replace tf0 := fun x hx => tf0 x (Below.on hS' hx)
      replace tf1 := fun x hx => tf1 x (Below.on hS' hx)
      replace tf2 := fun x hx => tf2 x (Below.on hS' hx)
      replace tf3 := fun x hx => tf3 x (Below.on hS' hx)
      clear hHeld hb hS'
      have hHeld : Below u24.heap.size u24 u24 := Below.refl _ _
      refine wpAnyH_take (i := 26) (v := ?_) rfl (by kernel_rfl) (by kernel_rfl) (by kernel_rfl) (fun _ _ _ h => h) (Or.inl ⟨by kernel_rfl, ?hy26⟩) (by assumption) ?_
      case hy26 => (intro w hSw; (try dsimp only at hSw); go_simp; try with_reducible rfl)
      try simp only [Act.put, List.getElem_toArray, List.getElem_cons_zero, List.getElem_cons_succ, List.setIfInBounds_toArray, List.set_cons_zero, List.set_cons_succ]
      refine wpAnyH_take (i := 27) (v := ?_) rfl (by kernel_rfl) (by kernel_rfl) (by kernel_rfl) (fun _ _ _ h => h) (Or.inl ⟨by kernel_rfl, ?hy27⟩) (by assumption) ?_
      case hy27 => (intro w hSw; (try dsimp only at hSw); go_simp; try with_reducible rfl)
      try simp only [Act.put, List.getElem_toArray, List.getElem_cons_zero, List.getElem_cons_succ, List.setIfInBounds_toArray, List.set_cons_zero, List.set_cons_succ]
      refine wpAnyH_done (by kernel_rfl) ?_ _
      have B7 : Hid (Below w.heap.size w u24) := Below.on B6.out bw
      have E7 : Hid (Er u24 es (.iface T q) 0 (some x0) t) := E6.out.stays bw
      clear bw hHeld tf0 tf1 tf2 tf3 C18 C24 B6 E6
      have CK : Hid (∀ u, Below w.heap.size w u → Er u es (.iface T q) 0 (some x0) t → Calls Tryd.prog 18 #[.iface T q] u fun e w' => e = .returned (.int .i64 17) ∧ Below u.heap.size u w') := fun u hu h => h.kind (HA.out.below hu)
      have CC : Hid (∀ u, Calls Tryd.prog 17 #[.int .i64 0] u fun e w' => e = .returned (.int .i64 10) ∧ w' = u) := fun u => refCode u 0 (by decide)
      go_wp2_with fail
      refine (code_nil _).mono ?_
      rintro e z1 ⟨rfl, hb⟩
      have Bz1 : Hid (Below w.heap.size w z1) := Below.on B7.out hb
      have Ez1 : Hid (Er z1 es (.iface T q) 0 (some x0) t) := E7.out.stays hb
      clear hb B7 E7
      go_wp2_with fail
      refine (CC.out _).mono ?_
      rintro e z2 ⟨rfl, hz⟩
      subst hz
      go_wp2_with fail
      refine (fkind_nil _).mono ?_
      rintro e z3 ⟨rfl, hb⟩
      have Bz3 : Hid (Below w.heap.size w z3) := Below.on Bz1.out hb
      have Ez3 : Hid (Er z3 es (.iface T q) 0 (some x0) t) := Ez1.out.stays hb
      clear hb Bz1 Ez1
      go_wp2_with fail
      refine (CK.out _ Bz3.out Ez3.out).mono ?_
      rintro e z4 ⟨rfl, hb⟩
      have Bz4 : Hid (Below w.heap.size w z4) := Below.on Bz3.out hb
      have Ez4 : Hid (Er z4 es (.iface T q) 0 (some x0) t) := Ez3.out.stays hb
      clear hb Bz3 Ez3
      go_wp2_with fail
      refine (awake_true _ es (HA.out.below Bz4.out)).mono ?_
      rintro e z9 ⟨rfl, hb⟩
      have B9 : Hid (Below w.heap.size w z9) := Below.on Bz4.out hb
      clear hb
      go_wp2
      go_ret
      exact ⟨rfl, B9.out⟩

set_option maxRecDepth 100000 in
set_option maxHeartbeats 4000000 in
theorem listed (a0 a1 a2 a3 : Int) (s4 : ByteArray) (w : World) (es : List Addr) (hA : All w es) (h4 : s4.size ≤ 200) (hz : 1 ≤ a0 ∧ a0 ≤ 16) :
    Calls Tryd.prog 3 #[.int .i64 a0, .int .i64 a1, .int .i64 a2, .int .i64 a3, .string s4] w fun e w' => e = .returned (.bool true) ∧ Below w.heap.size w w' := by
  obtain ⟨k, hk⟩ : ∃ k : Nat, a0 = k := ⟨a0.toNat, by omega⟩
  subst hk
  have hk1 : 1 ≤ k := by omega
  have hk2 : k ≤ 16 := by omega
  obtain ⟨x, s, hl⟩ := lst_of hA hk1 hk2
  have HX : Hid (Lst es k x s) := hl
  have HQ : Hid (∀ w, All w es → Calls Tryd.prog 9 #[.int .i64 (k : Nat)] w fun e w' => e = .returned (eS x) ∧ Below w.heap.size w w') := fun w h => by rw [← hl.val]; exact error_at w es h.errs k hk1 hk2
  have HK : Hid (∀ w, All w es → Calls Tryd.prog 10 #[eS x] w fun e w' => e = .returned (.int .i64 (k : Nat)) ∧ Below w.heap.size w w') := fun w h => by rw [← hl.val]; exact kind_erv w es h.errs k hk2
  have HN : Hid (∀ w, All w es → ∀ o c, Calls Tryd.prog 11 #[.int .i64 o, .int .i64 c, eS x] w fun e w' => ∃ b, e = .returned (eF b) ∧ Er w' es (eF b) k (some b) s.data.toList ∧ Fa w' b o c s (eS x) ∧ Below w.heap.size w w') := fun w h o c => hl.new h o c
  clear hz hl
  have HA : Hid (All w es) := hA
  have g1 : ¬ (200 : Int) < s4.size := by omega
  obtain ⟨p, hp, hp6⟩ : ∃ p : Nat, a3 % 6 = p ∧ p < 6 := ⟨(a3 % 6).toNat, by omega, by omega⟩
  have HP : Hid (∀ w, Calls Tryd.prog 12 #[.int .i64 a3, .int .i64 6] w fun e w' => e = .returned (.int .i64 (p : Nat)) ∧ w' = w) := fun w => by
    rw [← hp]; exact place w a3 6 (by decide) (by decide)
  clear hA h4 hp
  go_enter Tryd.func3, Tryd.ntmps3
  go_wp2_with fail
  refine (HQ.out w HA.out).mono ?_
  rintro e w1 ⟨rfl, hb⟩
  have B1 : Hid (Below w.heap.size w w1) := hb
  clear hb
  go_wp2_with fail
  refine (HK.out w1 (HA.out.below B1.out)).mono ?_
  rintro e w2 ⟨rfl, hb⟩
  have B2 : Hid (Below w.heap.size w w2) := Below.on B1.out hb
  clear hb B1
  go_wp2_with fail
  refine (HN.out w2 (HA.out.below B2.out) a1 a2).mono ?_
  rintro e w3 ⟨x0, rfl, hE, hF, hb⟩
  have B3 : Hid (Below w.heap.size w w3) := Below.on B2.out hb
  have E0 : Hid (∃ t, Er w3 es (eF x0) k (some x0) t) := ⟨_, hE⟩
  have F0 : Hid (Fa w3 x0 a1 a2 s (eS x)) := hF
  clear hb hE hF B2
  go_wp2
  go_loopw [13, 14] (fun v i wr => ∃ j : Nat, (∃ T q, v = .iface T q) ∧ (j ≤ p ∧ i = .int .i64 j) ∧ (∃ t, Er wr es v k (some x0) t) ∧ Fa wr x0 a1 a2 s (eS x) ∧ Below w.heap.size w wr) (fun _ i _ => p - (intOf i).toNat)
  case atStart => exact ⟨0, ⟨_, _, rfl⟩, ⟨by omega, rfl⟩, E0.out, F0.out, B3.out⟩
  case round =>
    obtain ⟨j, ⟨T, q, rfl⟩, ⟨hj, rfl⟩, hE, hF, hb⟩ := hrel
    have B4 : Hid (Below w.heap.size w wr) := hb
    have E4 : Hid (∃ t, Er wr es (.iface T q) k (some x0) t) := hE
    have F4 : Hid (Fa wr x0 a1 a2 s (eS x)) := hF
    clear hb hE hF B3 E0 F0
    by_cases hjp : j < p
    · have hlt : (j : Int) < p := by omega
      go_wp2_with fail
      refine (HP.out _).mono ?_
      rintro e w4 ⟨rfl, rfl⟩
      go_wp2_with fail
      obtain ⟨t, hE⟩ := E4.out
      refine (fWrap w4 es _ _ _ _ s4 hE).mono ?_
      rintro e w5 ⟨x5, rfl, hE5, hb⟩
      have HR : Hid ((∃ t, Er w5 es (eW x5) k (some x0) t) ∧ Fa w5 x0 a1 a2 s (eS x) ∧ Below w.heap.size w w5) := ⟨⟨_, hE5⟩, F4.out.stays hb, Below.on B4.out hb⟩
      clear hE hE5 hb B4 E4 F4
      go_wp2
      go_round
      case rel => exact ⟨j + 1, ⟨_, _, rfl⟩, ⟨by omega, by go_num⟩, HR.out⟩
      case measure => simp [intOf]; omega
    · have hlt : ¬ (j : Int) < p := by omega
      clear hp6
      go_wp2_with fail
      refine (HP.out _).mono ?_
      rintro e w4 ⟨rfl, rfl⟩
      go_wp2_with fail
      obtain ⟨t, hE⟩ := E4.out
      refine (hE.of (HA.out.below B4.out) F4.out (.inr ⟨_, _, rfl⟩)).mono ?_
      rintro e w5 ⟨rfl, hb⟩
      have B5 : Hid (Below w.heap.size w w5) := Below.on B4.out hb
      have E5 : Hid (Er w5 es (.iface T q) k (some x0) t) := hE.stays hb
      clear hb hE B4 E4 F4
      rw [ofRet]
      have hv := bel_alloc w5 (.cells #[.int .i64 a1, .int .i64 a2, .string s, (eS x)] 31)
      have B6 : Hid (Below w.heap.size w (w5.alloc (.cells #[.int .i64 a1, .int .i64 a2, .string s, (eS x)] 31))) := Below.on B5.out hv
      have V6 : Hid (Fa (w5.alloc (.cells #[.int .i64 a1, .int .i64 a2, .string s, (eS x)] 31)) w5.heap.size a1 a2 s (eS x)) := Fa.var ..
      have E6 : Hid (Er (w5.alloc (.cells #[.int .i64 a1, .int .i64 a2, .string s, (eS x)] 31)) es (.iface T q) k (some x0) t) := E5.out.stays hv
      clear hv B5 E5
      go_wp2_with fail
      generalize hn : w5.heap.size = n5 at *
      generalize hW : w5.alloc (.cells #[.int .i64 a1, .int .i64 a2, .string s, (eS x)] 31) = W6 at *
      clear hn hW
      have A6 : All W6 es := HA.out.below B6.out
      have C18 : Hid (∀ u, Below W6.heap.size W6 u → Calls Tryd.prog 15 #[.int .i64 (k : Nat)] u fun e w' => e = .returned (.string s) ∧ Below u.heap.size u w') := fun u _ => by rw [HX.out.text]; exact refText u k HX.out.le
      have C24 : Hid (∀ u, Below W6.heap.size W6 u → Calls Tryd.prog 10 #[(eS x)] u fun e w' => e = .returned (.int .i64 (k : Nat)) ∧ Below u.heap.size u w') := fun u hu => HK.out u (A6.below hu)
      have tf0 : ∀ u, Below W6.heap.size W6 u → u.cell? ⟨n5, 0, none⟩ = some (.int .i64 a1) := fun u hu => (V6.out.stays hu).c0
      have tf1 : ∀ u, Below W6.heap.size W6 u → u.cell? ⟨n5, 1, none⟩ = some (.int .i64 a2) := fun u hu => (V6.out.stays hu).c1
      have tf2 : ∀ u, Below W6.heap.size W6 u → u.cell? ⟨n5, 2, none⟩ = some (.string s) := fun u hu => (V6.out.stays hu).c2
      have tf3 : ∀ u, Below W6.heap.size W6 u → u.cell? ⟨n5, 3, none⟩ = some (eS x) := fun u hu => (V6.out.stays hu).c3
      clear A6 V6 HQ HN HP
      refine wp_region_held_drew (S := fun x => Below W6.heap.size W6 x) (by kernel_rfl) (Below.refl _ _).drew (fun hHeld => ?_)
      have hHeld : Below W6.heap.size W6 W6.drew := hHeld
      have bw : Below W6.heap.size W6 W6.drew := (Below.refl _ _).drew
      refine wpAnyH_take (i := 0) (v := ?_) rfl (by kernel_rfl) (by kernel_rfl) (by kernel_rfl) (fun _ _ _ h => h) (Or.inl ⟨by kernel_rfl, ?hy0⟩) (by assumption) ?_
      case hy0 => (intro w hSw; (try dsimp only at hSw); go_simp; try with_reducible rfl)
      try simp only [Act.put, List.getElem_toArray, List.getElem_cons_zero, List.getElem_cons_succ, List.setIfInBounds_toArray, List.set_cons_zero, List.set_cons_succ]
      refine wpAnyH_take (i := 1) (v := ?_) rfl (by kernel_rfl) (by kernel_rfl) (by kernel_rfl) (fun _ _ _ h => h) (Or.inl ⟨by kernel_rfl, ?hy1⟩) (by assumption) ?_
      case hy1 => (intro w hSw; (try dsimp only at hSw); go_simp; try with_reducible rfl)
      try simp only [Act.put, List.getElem_toArray, List.getElem_cons_zero, List.getElem_cons_succ, List.setIfInBounds_toArray, List.set_cons_zero, List.set_cons_succ]
      refine wpAnyH_take (i := 2) (v := ?_) rfl (by kernel_rfl) (by kernel_rfl) (by kernel_rfl) (fun _ _ _ h => h) (Or.inl ⟨by kernel_rfl, ?hy2⟩) (by assumption) ?_
      case hy2 => (intro w hSw; (try dsimp only at hSw); go_simp; try with_reducible rfl)
      try simp only [Act.put, List.getElem_toArray, List.getElem_cons_zero, List.getElem_cons_succ, List.setIfInBounds_toArray, List.set_cons_zero, List.set_cons_succ]
      refine wpAnyH_take (i := 3) (v := ?_) rfl (by kernel_rfl) (by kernel_rfl) (by kernel_rfl) (fun _ _ _ h => h) (Or.inl ⟨by kernel_rfl, ?hy3⟩) (by assumption) ?_
      case hy3 => (intro w hSw; (try dsimp only at hSw); go_simp; try with_reducible rfl)
      try simp only [Act.put, List.getElem_toArray, List.getElem_cons_zero, List.getElem_cons_succ, List.setIfInBounds_toArray, List.set_cons_zero, List.set_cons_succ]
      refine wpAnyH_take (i := 4) (v := ?_) rfl (by kernel_rfl) (by kernel_rfl) (by kernel_rfl) (fun _ _ _ h => h) (Or.inl ⟨by kernel_rfl, ?hy4⟩) (by assumption) ?_
      case hy4 => (intro w hSw; (try dsimp only at hSw); go_simp; try with_reducible rfl)
      try simp only [Act.put, List.getElem_toArray, List.getElem_cons_zero, List.getElem_cons_succ, List.setIfInBounds_toArray, List.set_cons_zero, List.set_cons_succ]
      refine wpAnyH_take (i := 5) (v := ?_) rfl (by kernel_rfl) (by kernel_rfl) (by kernel_rfl) (fun _ _ _ h => h) (Or.inl ⟨by kernel_rfl, ?hy5⟩) (by assumption) ?_
      case hy5 => (intro w hSw; (try dsimp only at hSw); go_simp; try with_reducible rfl)
      try simp only [Act.put, List.getElem_toArray, List.getElem_cons_zero, List.getElem_cons_succ, List.setIfInBounds_toArray, List.set_cons_zero, List.set_cons_succ]
      refine wpAnyH_take (i := 6) (v := ?_) rfl (by kernel_rfl) (by kernel_rfl) (by kernel_rfl) (fun _ _ _ h => h) (Or.inl ⟨by kernel_rfl, ?hy6⟩) (by assumption) ?_
      case hy6 => (intro w hSw; (try dsimp only at hSw); go_simp; try with_reducible rfl)
      try simp only [Act.put, List.getElem_toArray, List.getElem_cons_zero, List.getElem_cons_succ, List.setIfInBounds_toArray, List.set_cons_zero, List.set_cons_succ]
      refine wpAnyH_take (i := 7) (v := ?_) rfl (by kernel_rfl) (by kernel_rfl) (by kernel_rfl) (fun _ _ _ h => h) (Or.inl ⟨by kernel_rfl, ?hy7⟩) (by assumption) ?_
      case hy7 => (intro w hSw; (try dsimp only at hSw); go_simp; try with_reducible rfl)
      try simp only [Act.put, List.getElem_toArray, List.getElem_cons_zero, List.getElem_cons_succ, List.setIfInBounds_toArray, List.set_cons_zero, List.set_cons_succ]
      refine wpAnyH_take (i := 8) (v := ?_) rfl (by kernel_rfl) (by kernel_rfl) (by kernel_rfl) (fun _ _ _ h => h) (Or.inl ⟨by kernel_rfl, ?hy8⟩) (by assumption) ?_
      case hy8 => (intro w hSw; (try dsimp only at hSw); go_simp; try with_reducible rfl)
      try simp only [Act.put, List.getElem_toArray, List.getElem_cons_zero, List.getElem_cons_succ, List.setIfInBounds_toArray, List.set_cons_zero, List.set_cons_succ]
      refine wpAnyH_take (i := 9) (v := ?_) rfl (by kernel_rfl) (by kernel_rfl) (by kernel_rfl) (fun _ _ _ h => h) (Or.inl ⟨by kernel_rfl, ?hy9⟩) (by assumption) ?_
      case hy9 => (intro w hSw; (try dsimp only at hSw); go_simp; try with_reducible rfl)
      try simp only [Act.put, List.getElem_toArray, List.getElem_cons_zero, List.getElem_cons_succ, List.setIfInBounds_toArray, List.set_cons_zero, List.set_cons_succ]
      refine wpAnyH_take (i := 10) (v := ?_) rfl (by kernel_rfl) (by kernel_rfl) (by kernel_rfl) (fun _ _ _ h => h) (Or.inl ⟨by kernel_rfl, ?hy10⟩) (by assumption) ?_
      case hy10 => (intro w hSw; (try dsimp only at hSw); go_simp; try with_reducible rfl)
      try simp only [Act.put, List.getElem_toArray, List.getElem_cons_zero, List.getElem_cons_succ, List.setIfInBounds_toArray, List.set_cons_zero, List.set_cons_succ]
      refine wpAnyH_take (i := 11) (v := ?_) rfl (by kernel_rfl) (by kernel_rfl) (by kernel_rfl) (fun _ _ _ h => h) (Or.inl ⟨by kernel_rfl, ?hy11⟩) (by assumption) ?_
      case hy11 => (intro w hSw; (try dsimp only at hSw); go_simp; try with_reducible rfl)
      try simp only [Act.put, List.getElem_toArray, List.getElem_cons_zero, List.getElem_cons_succ, List.setIfInBounds_toArray, List.set_cons_zero, List.set_cons_succ]
      refine wpAnyH_take (i := 12) (v := ?_) rfl (by kernel_rfl) (by kernel_rfl) (by kernel_rfl) (fun _ _ _ h => h) (Or.inl ⟨by kernel_rfl, ?hy12⟩) (by assumption) ?_
      case hy12 => (intro w hSw; (try dsimp only at hSw); go_simp; try with_reducible rfl)
      try simp only [Act.put, List.getElem_toArray, List.getElem_cons_zero, List.getElem_cons_succ, List.setIfInBounds_toArray, List.set_cons_zero, List.set_cons_succ]
      refine wpAnyH_take (i := 13) (v := ?_) rfl (by kernel_rfl) (by kernel_rfl) (by kernel_rfl) (fun _ _ _ h => h) (Or.inl ⟨by kernel_rfl, ?hy13⟩) (by assumption) ?_
      case hy13 => (intro w hSw; (try dsimp only at hSw); go_simp; try with_reducible rfl)
      try simp only [Act.put, List.getElem_toArray, List.getElem_cons_zero, List.getElem_cons_succ, List.setIfInBounds_toArray, List.set_cons_zero, List.set_cons_succ]
      refine wpAnyH_take (i := 14) (v := ?_) rfl (by kernel_rfl) (by kernel_rfl) (by kernel_rfl) (fun _ _ _ h => h) (Or.inl ⟨by kernel_rfl, ?hy14⟩) (by assumption) ?_
      case hy14 => (intro w hSw; (try dsimp only at hSw); go_simp; try with_reducible rfl)
      try simp only [Act.put, List.getElem_toArray, List.getElem_cons_zero, List.getElem_cons_succ, List.setIfInBounds_toArray, List.set_cons_zero, List.set_cons_succ]
      refine wpAnyH_take (i := 15) (v := ?_) rfl (by kernel_rfl) (by kernel_rfl) (by kernel_rfl) (fun _ _ _ h => h) (Or.inl ⟨by kernel_rfl, ?hy15⟩) (by assumption) ?_
      case hy15 => (intro w hSw; (try dsimp only at hSw); go_simp; try with_reducible rfl)
      try simp only [Act.put, List.getElem_toArray, List.getElem_cons_zero, List.getElem_cons_succ, List.setIfInBounds_toArray, List.set_cons_zero, List.set_cons_succ]
      refine wpAnyH_take (i := 16) (v := ?_) rfl (by kernel_rfl) (by kernel_rfl) (by kernel_rfl) (fun _ _ _ h => h) (Or.inl ⟨by kernel_rfl, ?hy16⟩) (by assumption) ?_
      case hy16 => (intro w hSw; (try dsimp only at hSw); go_simp; try with_reducible rfl)
      try simp only [Act.put, List.getElem_toArray, List.getElem_cons_zero, List.getElem_cons_succ, List.setIfInBounds_toArray, List.set_cons_zero, List.set_cons_succ]
      refine wpAnyH_take (i := 17) (v := ?_) rfl (by kernel_rfl) (by kernel_rfl) (by kernel_rfl) (fun _ _ _ h => h) (Or.inl ⟨by kernel_rfl, ?hy17⟩) (by assumption) ?_
      case hy17 => (intro w hSw; (try dsimp only at hSw); go_simp; try with_reducible rfl)
      try simp only [Act.put, List.getElem_toArray, List.getElem_cons_zero, List.getElem_cons_succ, List.setIfInBounds_toArray, List.set_cons_zero, List.set_cons_succ]
      refine wpAnyH_ready (rs := [18]) (by kernel_rfl) (by simp) ?_
      refine AllReadyH.cons rfl (fun K hK => ?_) AllReadyH.nil
      go_simp
      go_wp2_with fail
      refine (C18.out _ bw).mono ?_
      rintro e u18 ⟨rfl, hb⟩
      have hS' := Below.on hHeld hb
      refine hK.out _ _ hS' (fun _ => ?_)
      clear hK K
      refine wpAnyH_mono (S' := fun x => Below u18.heap.size u18 x) (fun x hx => Below.on hS' hx) ?_
      replace bw := Below.on bw hb
      replace tf0 := fun x hx => tf0 x (Below.on hS' hx)
      replace tf1 := fun x hx => tf1 x (Below.on hS' hx)
      replace tf2 := fun x hx => tf2 x (Below.on hS' hx)
      replace tf3 := fun x hx => tf3 x (Below.on hS' hx)
      clear hHeld hb hS'
      have hHeld : Below u18.heap.size u18 u18 := Below.refl _ _
      refine wpAnyH_take (i := 19) (v := ?_) rfl (by kernel_rfl) (by kernel_rfl) (by kernel_rfl) (fun _ _ _ h => h) (Or.inl ⟨by kernel_rfl, ?hy19⟩) (by assumption) ?_
      case hy19 => (intro w hSw; (try dsimp only at hSw); go_simp; try with_reducible rfl)
      try simp only [Act.put, List.getElem_toArray, List.getElem_cons_zero, List.getElem_cons_succ, List.setIfInBounds_toArray, List.set_cons_zero, List.set_cons_succ]
      refine wpAnyH_take (i := 20) (v := ?_) rfl (by kernel_rfl) (by kernel_rfl) (by kernel_rfl) (fun _ _ _ h => h) (Or.inl ⟨by kernel_rfl, ?hy20⟩) (by assumption) ?_
      case hy20 => (intro w hSw; (try dsimp only at hSw); go_simp; try with_reducible rfl)
      try simp only [Act.put, List.getElem_toArray, List.getElem_cons_zero, List.getElem_cons_succ, List.setIfInBounds_toArray, List.set_cons_zero, List.set_cons_succ]
      refine wpAnyH_take (i := 21) (v := ?_) rfl (by kernel_rfl) (by kernel_rfl) (by kernel_rfl) (fun _ _ _ h => h) (Or.inl ⟨by kernel_rfl, ?hy21⟩) (by assumption) ?_
      case hy21 => (intro w hSw; (try dsimp only at hSw); go_simp; try with_reducible rfl)
      try simp only [Act.put, List.getElem_toArray, List.getElem_cons_zero, List.getElem_cons_succ, List.setIfInBounds_toArray, List.set_cons_zero, List.set_cons_succ]
      refine wpAnyH_take (i := 22) (v := ?_) rfl (by kernel_rfl) (by kernel_rfl) (by kernel_rfl) (fun _ _ _ h => h) (Or.inl ⟨by kernel_rfl, ?hy22⟩) (by assumption) ?_
      case hy22 => (intro w hSw; (try dsimp only at hSw); go_simp; try with_reducible rfl)
      try simp only [Act.put, List.getElem_toArray, List.getElem_cons_zero, List.getElem_cons_succ, List.setIfInBounds_toArray, List.set_cons_zero, List.set_cons_succ]
      refine wpAnyH_take (i := 23) (v := ?_) rfl (by kernel_rfl) (by kernel_rfl) (by kernel_rfl) (fun _ _ _ h => h) (Or.inl ⟨by kernel_rfl, ?hy23⟩) (by assumption) ?_
      case hy23 => (intro w hSw; (try dsimp only at hSw); go_simp; try with_reducible rfl)
      try simp only [Act.put, List.getElem_toArray, List.getElem_cons_zero, List.getElem_cons_succ, List.setIfInBounds_toArray, List.set_cons_zero, List.set_cons_succ]
      refine wpAnyH_take (i := 25) (v := ?_) rfl (by kernel_rfl) (by kernel_rfl) (by kernel_rfl) (fun _ _ _ h => h) (Or.inl ⟨by kernel_rfl, ?hy25⟩) (by assumption) ?_
      case hy25 => (intro w hSw; (try dsimp only at hSw); go_simp; try with_reducible rfl)
      try simp only [Act.put, List.getElem_toArray, List.getElem_cons_zero, List.getElem_cons_succ, List.setIfInBounds_toArray, List.set_cons_zero, List.set_cons_succ]
      refine wpAnyH_ready (rs := [24]) (by kernel_rfl) (by simp) ?_
      refine AllReadyH.cons rfl (fun K hK => ?_) AllReadyH.nil
      go_simp
      go_wp2_with fail
      refine (C24.out _ bw).mono ?_
      rintro e u24 ⟨rfl, hb⟩
      have hS' := Below.on hHeld hb
      refine hK.out _ _ hS' (fun _ => ?_)
      clear hK K
      refine wpAnyH_mono (S' := fun x => Below u24.heap.size u24 x) (fun x hx => Below.on hS' hx) ?_
      replace bw := Below.on bw hb
      replace tf0 := fun x hx => tf0 x (Below.on hS' hx)
      replace tf1 := fun x hx => tf1 x (Below.on hS' hx)
      replace tf2 := fun x hx => tf2 x (Below.on hS' hx)
      replace tf3 := fun x hx => tf3 x (Below.on hS' hx)
      clear hHeld hb hS'
      have hHeld : Below u24.heap.size u24 u24 := Below.refl _ _
      refine wpAnyH_take (i := 26) (v := ?_) rfl (by kernel_rfl) (by kernel_rfl) (by kernel_rfl) (fun _ _ _ h => h) (Or.inl ⟨by kernel_rfl, ?hy26⟩) (by assumption) ?_
      case hy26 => (intro w hSw; (try dsimp only at hSw); go_simp; try with_reducible rfl)
      try simp only [Act.put, List.getElem_toArray, List.getElem_cons_zero, List.getElem_cons_succ, List.setIfInBounds_toArray, List.set_cons_zero, List.set_cons_succ]
      refine wpAnyH_take (i := 27) (v := ?_) rfl (by kernel_rfl) (by kernel_rfl) (by kernel_rfl) (fun _ _ _ h => h) (Or.inl ⟨by kernel_rfl, ?hy27⟩) (by assumption) ?_
      case hy27 => (intro w hSw; (try dsimp only at hSw); go_simp; try with_reducible rfl)
      try simp only [Act.put, List.getElem_toArray, List.getElem_cons_zero, List.getElem_cons_succ, List.setIfInBounds_toArray, List.set_cons_zero, List.set_cons_succ]
      refine wpAnyH_done (by kernel_rfl) ?_ _
      have B7 : Hid (Below w.heap.size w u24) := Below.on B6.out bw
      have E7 : Hid (Er u24 es (.iface T q) k (some x0) t) := E6.out.stays bw
      clear bw hHeld tf0 tf1 tf2 tf3 C18 C24 B6 E6
      have hk0 : decide ((k : Int) = 0) = false := by have := HX.out.pos; simp; omega
      have kk : kindOf k = k := by unfold kindOf; have := HX.out.pos; split <;> omega
      have CD : Hid (∀ u, Below w.heap.size w u → Calls Tryd.prog 16 #[eS x] u fun e w' => e = .returned (.int .i64 (codeOf k)) ∧ Below u.heap.size u w') := fun u hu => by
        have := (HX.out.er (HA.out.below hu)).code (HA.out.below hu)
        rwa [kk] at this
      have CC : Hid (∀ u, Calls Tryd.prog 17 #[.int .i64 (k : Nat)] u fun e w' => e = .returned (.int .i64 (codeOf k)) ∧ w' = u) := fun u => refCode u k HX.out.le
      have CS : Hid (∀ u, Below w.heap.size w u → Calls Tryd.prog 18 #[eS x] u fun e w' => e = .returned (.int .i64 (k : Nat)) ∧ Below u.heap.size u w') := fun u hu => HX.out.kind (HX.out.er (HA.out.below hu)) (HA.out.below hu)
      have CK : Hid (∀ u, Below w.heap.size w u → Er u es (.iface T q) k (some x0) t → Calls Tryd.prog 18 #[.iface T q] u fun e w' => e = .returned (.int .i64 (k : Nat)) ∧ Below u.heap.size u w') := fun u hu h => HX.out.kind h (HA.out.below hu)
      have CI : Hid (∀ u, Below w.heap.size w u → Er u es (.iface T q) k (some x0) t → Calls Tryd.prog 19 #[.iface T q, eS x] u fun e w' => e = .returned (.bool true) ∧ Below u.heap.size u w') := fun u hu h => HX.out.fis h (HA.out.below hu)
      have CJ : Hid (∀ u, Below w.heap.size w u → Er u es (.iface T q) k (some x0) t → Calls Tryd.prog 20 #[.iface T q, eS x] u fun e w' => e = .returned (.bool true) ∧ w' = u) := fun u hu h => HX.out.eis h (HA.out.below hu)
      clear kk
      go_wp2_with fail
      refine (CD.out _ B7.out).mono ?_
      rintro e z1 ⟨rfl, hb⟩
      have Bz1 : Hid (Below w.heap.size w z1) := Below.on B7.out hb
      have Ez1 : Hid (Er z1 es (.iface T q) k (some x0) t) := E7.out.stays hb
      clear hb B7 E7
      go_wp2_with fail
      refine (CC.out _).mono ?_
      rintro e z2 ⟨rfl, hz⟩
      subst hz
      go_wp2_with fail
      refine (CS.out _ Bz1.out).mono ?_
      rintro e z3 ⟨rfl, hb⟩
      have Bz3 : Hid (Below w.heap.size w z3) := Below.on Bz1.out hb
      have Ez3 : Hid (Er z3 es (.iface T q) k (some x0) t) := Ez1.out.stays hb
      clear hb Bz1 Ez1
      go_wp2_with fail
      refine (CK.out _ Bz3.out Ez3.out).mono ?_
      rintro e z4 ⟨rfl, hb⟩
      have Bz4 : Hid (Below w.heap.size w z4) := Below.on Bz3.out hb
      have Ez4 : Hid (Er z4 es (.iface T q) k (some x0) t) := Ez3.out.stays hb
      clear hb Bz3 Ez3
      go_wp2_with fail
      refine (CI.out _ Bz4.out Ez4.out).mono ?_
      rintro e z5 ⟨rfl, hb⟩
      have Bz5 : Hid (Below w.heap.size w z5) := Below.on Bz4.out hb
      have Ez5 : Hid (Er z5 es (.iface T q) k (some x0) t) := Ez4.out.stays hb
      clear hb Bz4 Ez4
      go_wp2_with fail
      refine (CJ.out _ Bz5.out Ez5.out).mono ?_
      rintro e z6 ⟨rfl, hz⟩
      subst hz
      go_wp2_with fail
      refine (awake_true _ es (HA.out.below Bz5.out)).mono ?_
      rintro e z9 ⟨rfl, hb⟩
      have B9 : Hid (Below w.heap.size w z9) := Below.on Bz5.out hb
      clear hb
      go_wp2
      go_ret
      exact ⟨rfl, B9.out⟩

theorem walk (a0 a1 a2 a3 : Int) (s4 : ByteArray) (w : World) (_ : (Lit.int .i64 a0).wf = true) (_ : (Lit.int .i64 a1).wf = true) (_ : (Lit.int .i64 a2).wf = true) (_ : (Lit.int .i64 a3).wf = true) (_ : s4.size ≤ 140737488351232) (hL : laidMetH Tryd.prog Rows.faultAllRow.laid w) :
    Calls Tryd.prog 3 #[.int .i64 a0, .int .i64 a1, .int .i64 a2, .int .i64 a3, .string s4] w fun e w' => e = .returned (.bool true) ∧ Below w.heap.size w w' := by
  obtain ⟨es, hA⟩ := all17 hL
  by_cases h : s4.size ≤ 200
  · by_cases hz : 1 ≤ a0 ∧ a0 ≤ 16
    · exact listed a0 a1 a2 a3 s4 w es hA h hz
    · exact zero a0 a1 a2 a3 s4 w es hA h (by omega)
  · exact long a0 a1 a2 a3 s4 w es hA h
end Go.Proofs.YtghccfgoiejajaaDoor.faultAll
