/- FaultFirst's walk. -/
import Derived.Test.YtghccfgoiejajaaDoorFltO
set_option linter.unusedSimpArgs false
namespace Go.Proofs.YtghccfgoiejajaaDoor.faultFirst
open Go Go.RowKit

set_option maxRecDepth 100000 in
theorem long (a0 a1 a2 : Int) (s3 : ByteArray) (w : World) (es : List Addr) (hA : All w es) (h : ¬ s3.size ≤ 200) :
    Calls Tryd.prog 5 #[.int .i64 a0, .int .i64 a1, .int .i64 a2, .string s3] w fun e w' => e = .returned (.bool true) ∧ Below w.heap.size w w' := by
  have HA : Hid (All w es) := hA
  have g1 : (200 : Int) < s3.size := by omega
  clear hA h
  go_enter Tryd.func5, Tryd.ntmps5
  go_wp2_with fail
  refine (awake_true _ es HA.out).mono ?_
  rintro e w1 ⟨rfl, hb⟩
  have B1 : Hid (Below w.heap.size w w1) := hb
  clear hb
  go_wp2
  go_ret
  exact ⟨rfl, B1.out⟩

set_option maxRecDepth 100000 in
set_option maxHeartbeats 4000000 in
theorem short (a0 a1 a2 : Int) (s3 : ByteArray) (w : World) (es : List Addr) (hA : All w es) (h : s3.size ≤ 200) :
    Calls Tryd.prog 5 #[.int .i64 a0, .int .i64 a1, .int .i64 a2, .string s3] w fun e w' => e = .returned (.bool true) ∧ Below w.heap.size w w' := by
  obtain ⟨m, x, s, hm, hl, hp, hq⟩ := named hA a2
  have HA : Hid (All w es) := hA
  have HP : Hid (∀ w, Calls Tryd.prog 12 #[.int .i64 a2, .int .i64 16] w fun e w' => e = .returned (.int .i64 (m : Nat)) ∧ w' = w) := hp
  have HQ : Hid (∀ w, All w es → Calls Tryd.prog 9 #[.int .i64 (1 + (m : Int))] w fun e w' => e = .returned (eS x) ∧ Below w.heap.size w w') := hq
  have HX : Hid (Lst es (m + 1) x s) := hl
  have b1 : (m : Int) < 16 := by omega
  have g1 : ¬ (200 : Int) < s3.size := by omega
  have HT : Hid ((s3.data.toList ++ [58, 32] ++ s.data.toList).length ≤ 1000) := by
    have h2 := words_short hl.le
    rw [← hl.text] at h2
    have h3 : s3.data.toList.length = s3.size := Array.length_toList
    show _ ≤ _
    simp only [List.length_append, List.length_cons, List.length_nil]
    omega
  clear hA hp hq hl hm h
  go_enter Tryd.func5, Tryd.ntmps5
  go_wp2_with fail
  refine (HP.out _).mono ?_
  rintro e w' ⟨rfl, rfl⟩
  go_wp2_with fail
  refine (HQ.out _ HA.out).mono ?_
  rintro e w1 ⟨rfl, hb⟩
  have B1 : Hid (Below w'.heap.size w' w1) := hb
  clear hb
  go_wp2_with fail
  refine (HX.out.new (HA.out.below B1.out) a0 1).mono ?_
  rintro e w2 ⟨x1, rfl, hE, hF, hb⟩
  have B2 : Hid (Below w'.heap.size w' w2) := Below.on B1.out hb
  have E1 : Hid (Er w2 es (eF x1) (m + 1) (some x1) s.data.toList) := hE
  clear hb hE hF B1
  go_wp2_with fail
  refine (fWrap w2 es _ _ _ _ s3 E1.out).mono ?_
  rintro e w3 ⟨x2, rfl, hE, hb⟩
  have B3 : Hid (Below w'.heap.size w' w3) := Below.on B2.out hb
  have E2 : Hid (Er w3 es (eW x2) (m + 1) (some x1) (s3.data.toList ++ [58, 32] ++ s.data.toList)) := hE
  clear hb hE B2 E1
  generalize ht : s3.data.toList ++ [58, 32] ++ s.data.toList = t at *
  clear ht
  go_wp2_with fail
  refine (fNewW w3 es a1 2 x2 _ _ t E2.out (by have := HT.out; omega)).mono ?_
  rintro e w4 ⟨x3, rfl, hE, hF, hb⟩
  have B4 : Hid (Below w'.heap.size w' w4) := Below.on B3.out hb
  have E2' : Hid (Er w4 es (eW x2) (m + 1) (some x1) t) := E2.out.stays hb
  have E3 : Hid (Er w4 es (eF x3) (m + 1) (some x3) t) := hE
  have F3 : Hid (Fa w4 x3 a1 2 ⟨t.toArray⟩ (eW x2)) := hF
  clear hb hE hF B3 E2
  go_wp2_with fail
  refine (fWrap w4 es _ _ _ _ s3 E3.out).mono ?_
  rintro e w5 ⟨x4, rfl, hE, hb⟩
  have B5 : Hid (Below w'.heap.size w' w5) := Below.on B4.out hb
  have E2 : Hid (Er w5 es (eW x2) (m + 1) (some x1) t) := E2'.out.stays hb
  have E4 : Hid (∃ t4, Er w5 es (eW x4) (m + 1) (some x3) t4) := ⟨_, hE⟩
  have F3' : Hid (Fa w5 x3 a1 2 ⟨t.toArray⟩ (eW x2)) := F3.out.stays hb
  clear hb hE B4 E2' E3 F3
  go_wp2_with fail
  obtain ⟨t4, hE4⟩ := E4.out
  refine (hE4.of (HA.out.below B5.out) F3'.out (.inr ⟨_, _, rfl⟩)).mono ?_
  rintro e w6 ⟨rfl, hb⟩
  have B6 : Hid (Below w'.heap.size w' w6) := Below.on B5.out hb
  have E2' : Hid (Er w6 es (eW x2) (m + 1) (some x1) t) := E2.out.stays hb
  have E4' : Hid (Er w6 es (eW x4) (m + 1) (some x3) t4) := hE4.stays hb
  have F3 : Hid (Fa w6 x3 a1 2 ⟨t.toArray⟩ (eW x2)) := F3'.out.stays hb
  clear hb hE4 B5 E2 E4 F3'
  rw [ofRet]
  have hv := bel_alloc w6 (.cells #[.int .i64 a1, .int .i64 2, .string ⟨t.toArray⟩, eW x2] 31)
  have B7 : Hid (Below w'.heap.size w' (w6.alloc (.cells #[.int .i64 a1, .int .i64 2, .string ⟨t.toArray⟩, eW x2] 31))) := Below.on B6.out hv
  have V7 : Hid (Fa (w6.alloc (.cells #[.int .i64 a1, .int .i64 2, .string ⟨t.toArray⟩, eW x2] 31)) w6.heap.size a1 2 ⟨t.toArray⟩ (eW x2)) := Fa.var ..
  have E2 : Hid (Er (w6.alloc (.cells #[.int .i64 a1, .int .i64 2, .string ⟨t.toArray⟩, eW x2] 31)) es (eW x2) (m + 1) (some x1) t) := E2'.out.stays hv
  have E4 : Hid (Er (w6.alloc (.cells #[.int .i64 a1, .int .i64 2, .string ⟨t.toArray⟩, eW x2] 31)) es (eW x4) (m + 1) (some x3) t4) := E4'.out.stays hv
  have F3' : Hid (Fa (w6.alloc (.cells #[.int .i64 a1, .int .i64 2, .string ⟨t.toArray⟩, eW x2] 31)) x3 a1 2 ⟨t.toArray⟩ (eW x2)) := F3.out.stays hv
  have CA : Hid (Calls Tryd.prog 21 #[eW x4, .iface 42 (.pointer (some ⟨w6.heap.size + 1, 0, none⟩))] (wP (w6.alloc (.cells #[.int .i64 a1, .int .i64 2, .string ⟨t.toArray⟩, eW x2] 31))) fun e u => e = .returned (.bool true) ∧ (u.cell? ⟨w6.heap.size + 1, 0, none⟩ = some (.pointer (some ⟨x3, 0, none⟩)) ∧ Below (w6.alloc (.cells #[.int .i64 a1, .int .i64 2, .string ⟨t.toArray⟩, eW x2] 31)).heap.size (w6.alloc (.cells #[.int .i64 a1, .int .i64 2, .string ⟨t.toArray⟩, eW x2] 31)) u)) := by
    show Calls _ _ _ _ _
    obtain ⟨L, hL, _⟩ := E4.out.ch
    have e := As_var (w6.alloc (.cells #[.int .i64 a1, .int .i64 2, .string ⟨t.toArray⟩, eW x2] 31)) es L (eW x4) (some x3) hL (HA.out.below B7.out)
    have hz : (w6.alloc (.cells #[.int .i64 a1, .int .i64 2, .string ⟨t.toArray⟩, eW x2] 31)).heap.size = w6.heap.size + 1 := by simp
    rw [hz] at e ⊢
    refine e.mono ?_
    rintro e u ⟨h1, h2, h3⟩
    have hp := wP_below (w6.alloc (.cells #[.int .i64 a1, .int .i64 2, .string ⟨t.toArray⟩, eW x2] 31))
    rw [hz] at hp
    exact ⟨h1, h3, hp.trans h2⟩
  clear hv B6 E2' E4' F3
  go_wp2_with fail
  refine CA.out.mono ?_
  rintro e w9 ⟨rfl, cp, hb⟩
  have B9 : Hid (Below w'.heap.size w' w9) := Below.on B7.out hb
  have V9 : Hid (Fa w9 w6.heap.size a1 2 ⟨t.toArray⟩ (eW x2)) := V7.out.stays hb
  have E2' : Hid (Er w9 es (eW x2) (m + 1) (some x1) t) := E2.out.stays hb
  have E4' : Hid (Er w9 es (eW x4) (m + 1) (some x3) t4) := E4.out.stays hb
  have F3 : Hid (Fa w9 x3 a1 2 ⟨t.toArray⟩ (eW x2)) := F3'.out.stays hb
  clear hb B7 V7 E2 E4 F3' CA
  generalize w6.heap.size = n6 at *
  go_wp2
  -- HERE
  have A9 : All w9 es := HA.out.below B9.out
  have mW := mErrorW
  have hw1 : IntKind.i64.wrap (1 + (m : Int)) = 1 + (m : Int) := by rw [IntKind.wrap_i64]; omega
  have CW : Hid (∀ u, Below w9.heap.size w9 u → Calls Tryd.prog 52 #[.pointer (some ⟨x2, 0, none⟩)] u fun e w' => e = .returned (.string ⟨t.toArray⟩) ∧ Below u.heap.size u w') := fun u hu => errorW u x2 t (E2'.out.stays hu).tx (by have := HT.out; omega)
  have CF : Hid (∀ u, Below w9.heap.size w9 u → Calls Tryd.prog 22 #[.pointer (some ⟨x3, 0, none⟩)] u fun e w' => e = .returned (.string ⟨t.toArray⟩) ∧ w' = u) := fun u hu => errorF u x3 a1 2 _ _ (F3.out.stays hu)
  have CI : Hid (∀ u, Below w9.heap.size w9 u → Calls Tryd.prog 20 #[eW x4, eS x] u fun e w' => e = .returned (.bool true) ∧ w' = u) := fun u hu => HX.out.eis (E4'.out.stays hu) (A9.below hu)
  have CK : Hid (∀ u, Below w9.heap.size w9 u → Calls Tryd.prog 18 #[eW x4] u fun e w' => e = .returned (.int .i64 (1 + (m : Int))) ∧ Below u.heap.size u w') := fun u hu => by
    rw [show (1 + (m : Int)) = ((m + 1 : Nat) : Int) by omega]
    exact HX.out.kind (E4'.out.stays hu) (A9.below hu)
  have CA : Hid (∀ u, Below w9.heap.size w9 u → Calls Tryd.prog 8 #[] u fun e w' => e = .returned (.bool true) ∧ Below u.heap.size u w') := fun u hu => awake_true u es (A9.below hu)
  have tf0 : ∀ u, Below w9.heap.size w9 u → u.cell? ⟨n6, 0, none⟩ = some (.int .i64 a1) := fun u hu => (V9.out.stays hu).c0
  have tf1 : ∀ u, Below w9.heap.size w9 u → u.cell? ⟨n6, 1, none⟩ = some (.int .i64 2) := fun u hu => (V9.out.stays hu).c1
  have tf2 : ∀ u, Below w9.heap.size w9 u → u.cell? ⟨n6, 2, none⟩ = some (.string ⟨t.toArray⟩) := fun u hu => (V9.out.stays hu).c2
  have tp : ∀ u, Below w9.heap.size w9 u → u.cell? ⟨n6 + 1, 0, none⟩ = some (.pointer (some ⟨x3, 0, none⟩)) := fun u hu => by rw [hu.cell (World.block_lt_of_cell? w9 _ cp)]; exact cp
  have tx0 : ∀ u, Below w9.heap.size w9 u → u.cell? ⟨x3, 0, none⟩ = some (.int .i64 a1) := fun u hu => (F3.out.stays hu).c0
  clear A9 V9 E2' E4' F3 HQ cp
  generalize (⟨t.toArray⟩ : ByteArray) = tt at *
  refine wp_region_held_drew (S := fun x => Below w9.heap.size w9 x) (by kernel_rfl) (Below.refl _ _).drew (fun hHeld => ?_)
  have hHeld : Below w9.heap.size w9 w9.drew := hHeld
  have bw : Below w9.heap.size w9 w9.drew := (Below.refl _ _).drew
  refine wpAnyH_take (i := 0) (v := ?_) rfl (by kernel_rfl) (by kernel_rfl) (by kernel_rfl) (fun _ _ _ h => h) (Or.inl ⟨by kernel_rfl, ?hy0⟩) (by assumption) ?_
  case hy0 => (intro w hSw; (try dsimp only at hSw); go_simp; try with_reducible rfl)
  try simp only [Act.put, List.getElem_toArray, List.getElem_cons_zero, List.getElem_cons_succ, List.setIfInBounds_toArray, List.set_cons_zero, List.set_cons_succ]
  refine wpAnyH_take (i := 1) (v := ?_) rfl (by kernel_rfl) (by kernel_rfl) (by kernel_rfl) (fun _ _ _ h => h) (Or.inl ⟨by kernel_rfl, ?hy1⟩) (by assumption) ?_
  case hy1 => (intro w hSw; (try dsimp only at hSw); go_simp; try with_reducible rfl)
  try simp only [Act.put, List.getElem_toArray, List.getElem_cons_zero, List.getElem_cons_succ, List.setIfInBounds_toArray, List.set_cons_zero, List.set_cons_succ]
  refine wpAnyH_take (i := 2) (v := ?_) rfl (by kernel_rfl) (by kernel_rfl) (by kernel_rfl) (fun _ _ _ h => h) (Or.inl ⟨by kernel_rfl, ?hy2⟩) (by assumption) ?_
  case hy2 => (intro w hSw; (try dsimp only at hSw); go_simp; try with_reducible rfl)
  try simp only [Act.put, List.getElem_toArray, List.getElem_cons_zero, List.getElem_cons_succ, List.setIfInBounds_toArray, List.set_cons_zero, List.set_cons_succ]
  refine wpAnyH_take (i := 3) (v := ?_) rfl (by kernel_rfl) (by kernel_rfl) (by kernel_rfl) (fun _ _ _ h => h) (Or.inl ⟨by kernel_rfl, ?hy3⟩) (by assumption) ?_
  case hy3 => (intro w hSw; (try dsimp only at hSw); go_simp; try with_reducible rfl)
  try simp only [Act.put, List.getElem_toArray, List.getElem_cons_zero, List.getElem_cons_succ, List.setIfInBounds_toArray, List.set_cons_zero, List.set_cons_succ]
  refine wpAnyH_take (i := 4) (v := ?_) rfl (by kernel_rfl) (by kernel_rfl) (by kernel_rfl) (fun _ _ _ h => h) (Or.inl ⟨by kernel_rfl, ?hy4⟩) (by assumption) ?_
  case hy4 => (intro w hSw; (try dsimp only at hSw); go_simp; try with_reducible rfl)
  try simp only [Act.put, List.getElem_toArray, List.getElem_cons_zero, List.getElem_cons_succ, List.setIfInBounds_toArray, List.set_cons_zero, List.set_cons_succ]
  refine wpAnyH_take (i := 5) (v := ?_) rfl (by kernel_rfl) (by kernel_rfl) (by kernel_rfl) (fun _ _ _ h => h) (Or.inl ⟨by kernel_rfl, ?hy5⟩) (by assumption) ?_
  case hy5 => (intro w hSw; (try dsimp only at hSw); go_simp; try with_reducible rfl)
  try simp only [Act.put, List.getElem_toArray, List.getElem_cons_zero, List.getElem_cons_succ, List.setIfInBounds_toArray, List.set_cons_zero, List.set_cons_succ]
  refine wpAnyH_take (i := 6) (v := ?_) rfl (by kernel_rfl) (by kernel_rfl) (by kernel_rfl) (fun _ _ _ h => h) (Or.inl ⟨by kernel_rfl, ?hy6⟩) (by assumption) ?_
  case hy6 => (intro w hSw; (try dsimp only at hSw); go_simp; try with_reducible rfl)
  try simp only [Act.put, List.getElem_toArray, List.getElem_cons_zero, List.getElem_cons_succ, List.setIfInBounds_toArray, List.set_cons_zero, List.set_cons_succ]
  refine wpAnyH_take (i := 7) (v := ?_) rfl (by kernel_rfl) (by kernel_rfl) (by kernel_rfl) (fun _ _ _ h => h) (Or.inl ⟨by kernel_rfl, ?hy7⟩) (by assumption) ?_
  case hy7 => (intro w hSw; (try dsimp only at hSw); go_simp; try with_reducible rfl)
  try simp only [Act.put, List.getElem_toArray, List.getElem_cons_zero, List.getElem_cons_succ, List.setIfInBounds_toArray, List.set_cons_zero, List.set_cons_succ]
  refine wpAnyH_take (i := 8) (v := ?_) rfl (by kernel_rfl) (by kernel_rfl) (by kernel_rfl) (fun _ _ _ h => h) (Or.inl ⟨by kernel_rfl, ?hy8⟩) (by assumption) ?_
  case hy8 => (intro w hSw; (try dsimp only at hSw); go_simp; try with_reducible rfl)
  try simp only [Act.put, List.getElem_toArray, List.getElem_cons_zero, List.getElem_cons_succ, List.setIfInBounds_toArray, List.set_cons_zero, List.set_cons_succ]
  refine wpAnyH_take (i := 9) (v := ?_) rfl (by kernel_rfl) (by kernel_rfl) (by kernel_rfl) (fun _ _ _ h => h) (Or.inl ⟨by kernel_rfl, ?hy9⟩) (by assumption) ?_
  case hy9 => (intro w hSw; (try dsimp only at hSw); go_simp; try with_reducible rfl)
  try simp only [Act.put, List.getElem_toArray, List.getElem_cons_zero, List.getElem_cons_succ, List.setIfInBounds_toArray, List.set_cons_zero, List.set_cons_succ]
  refine wpAnyH_take (i := 10) (v := ?_) rfl (by kernel_rfl) (by kernel_rfl) (by kernel_rfl) (fun _ _ _ h => h) (Or.inl ⟨by kernel_rfl, ?hy10⟩) (by assumption) ?_
  case hy10 => (intro w hSw; (try dsimp only at hSw); go_simp; try with_reducible rfl)
  try simp only [Act.put, List.getElem_toArray, List.getElem_cons_zero, List.getElem_cons_succ, List.setIfInBounds_toArray, List.set_cons_zero, List.set_cons_succ]
  refine wpAnyH_take (i := 11) (v := ?_) rfl (by kernel_rfl) (by kernel_rfl) (by kernel_rfl) (fun _ _ _ h => h) (Or.inl ⟨by kernel_rfl, ?hy11⟩) (by assumption) ?_
  case hy11 => (intro w hSw; (try dsimp only at hSw); go_simp; try with_reducible rfl)
  try simp only [Act.put, List.getElem_toArray, List.getElem_cons_zero, List.getElem_cons_succ, List.setIfInBounds_toArray, List.set_cons_zero, List.set_cons_succ]
  refine wpAnyH_take (i := 12) (v := ?_) rfl (by kernel_rfl) (by kernel_rfl) (by kernel_rfl) (fun _ _ _ h => h) (Or.inl ⟨by kernel_rfl, ?hy12⟩) (by assumption) ?_
  case hy12 => (intro w hSw; (try dsimp only at hSw); go_simp; try with_reducible rfl)
  try simp only [Act.put, List.getElem_toArray, List.getElem_cons_zero, List.getElem_cons_succ, List.setIfInBounds_toArray, List.set_cons_zero, List.set_cons_succ]
  refine wpAnyH_take (i := 13) (v := ?_) rfl (by kernel_rfl) (by kernel_rfl) (by kernel_rfl) (fun _ _ _ h => h) (Or.inl ⟨by kernel_rfl, ?hy13⟩) (by assumption) ?_
  case hy13 => (intro w hSw; (try dsimp only at hSw); go_simp; try with_reducible rfl)
  try simp only [Act.put, List.getElem_toArray, List.getElem_cons_zero, List.getElem_cons_succ, List.setIfInBounds_toArray, List.set_cons_zero, List.set_cons_succ]
  refine wpAnyH_take (i := 14) (v := ?_) rfl (by kernel_rfl) (by kernel_rfl) (by kernel_rfl) (fun _ _ _ h => h) (Or.inl ⟨by kernel_rfl, ?hy14⟩) (by assumption) ?_
  case hy14 => (intro w hSw; (try dsimp only at hSw); go_simp; try with_reducible rfl)
  try simp only [Act.put, List.getElem_toArray, List.getElem_cons_zero, List.getElem_cons_succ, List.setIfInBounds_toArray, List.set_cons_zero, List.set_cons_succ]
  refine wpAnyH_take (i := 15) (v := ?_) rfl (by kernel_rfl) (by kernel_rfl) (by kernel_rfl) (fun _ _ _ h => h) (Or.inl ⟨by kernel_rfl, ?hy15⟩) (by assumption) ?_
  case hy15 => (intro w hSw; (try dsimp only at hSw); go_simp; try with_reducible rfl)
  try simp only [Act.put, List.getElem_toArray, List.getElem_cons_zero, List.getElem_cons_succ, List.setIfInBounds_toArray, List.set_cons_zero, List.set_cons_succ]
  refine wpAnyH_take (i := 16) (v := ?_) rfl (by kernel_rfl) (by kernel_rfl) (by kernel_rfl) (fun _ _ _ h => h) (Or.inl ⟨by kernel_rfl, ?hy16⟩) (by assumption) ?_
  case hy16 => (intro w hSw; (try dsimp only at hSw); go_simp; try with_reducible rfl)
  try simp only [Act.put, List.getElem_toArray, List.getElem_cons_zero, List.getElem_cons_succ, List.setIfInBounds_toArray, List.set_cons_zero, List.set_cons_succ]
  refine wpAnyH_take (i := 17) (v := ?_) rfl (by kernel_rfl) (by kernel_rfl) (by kernel_rfl) (fun _ _ _ h => h) (Or.inl ⟨by kernel_rfl, ?hy17⟩) (by assumption) ?_
  case hy17 => (intro w hSw; (try dsimp only at hSw); go_simp; try with_reducible rfl)
  try simp only [Act.put, List.getElem_toArray, List.getElem_cons_zero, List.getElem_cons_succ, List.setIfInBounds_toArray, List.set_cons_zero, List.set_cons_succ]
  refine wpAnyH_take (i := 18) (v := ?_) rfl (by kernel_rfl) (by kernel_rfl) (by kernel_rfl) (fun _ _ _ h => h) (Or.inl ⟨by kernel_rfl, ?hy18⟩) (by assumption) ?_
  case hy18 => (intro w hSw; (try dsimp only at hSw); go_simp; try with_reducible rfl)
  try simp only [Act.put, List.getElem_toArray, List.getElem_cons_zero, List.getElem_cons_succ, List.setIfInBounds_toArray, List.set_cons_zero, List.set_cons_succ]
  refine wpAnyH_take (i := 19) (v := ?_) rfl (by kernel_rfl) (by kernel_rfl) (by kernel_rfl) (fun _ _ _ h => h) (Or.inl ⟨by kernel_rfl, ?hy19⟩) (by assumption) ?_
  case hy19 => (intro w hSw; (try dsimp only at hSw); go_simp; try with_reducible rfl)
  try simp only [Act.put, List.getElem_toArray, List.getElem_cons_zero, List.getElem_cons_succ, List.setIfInBounds_toArray, List.set_cons_zero, List.set_cons_succ]
  refine wpAnyH_take (i := 20) (v := ?_) rfl (by kernel_rfl) (by kernel_rfl) (by kernel_rfl) (fun _ _ _ h => h) (Or.inl ⟨by kernel_rfl, ?hy20⟩) (by assumption) ?_
  case hy20 => (intro w hSw; (try dsimp only at hSw); go_simp; try with_reducible rfl)
  try simp only [Act.put, List.getElem_toArray, List.getElem_cons_zero, List.getElem_cons_succ, List.setIfInBounds_toArray, List.set_cons_zero, List.set_cons_succ]
  refine wpAnyH_ready (rs := [21]) (by kernel_rfl) (by simp) ?_
  refine AllReadyH.cons rfl (fun K hK => ?_) AllReadyH.nil
  go_simp
  go_wp2_with fail
  refine (CW.out _ bw).mono ?_
  rintro e u21 ⟨rfl, hb⟩
  have hS' := Below.on hHeld hb
  refine hK.out _ _ hS' (fun _ => ?_)
  clear hK K
  refine wpAnyH_mono (S' := fun x => Below u21.heap.size u21 x) (fun x hx => Below.on hS' hx) ?_
  replace bw := Below.on bw hb
  replace tf0 := fun x hx => tf0 x (Below.on hS' hx)
  replace tf1 := fun x hx => tf1 x (Below.on hS' hx)
  replace tf2 := fun x hx => tf2 x (Below.on hS' hx)
  replace tp := fun x hx => tp x (Below.on hS' hx)
  replace tx0 := fun x hx => tx0 x (Below.on hS' hx)
  clear hHeld hb hS'
  have hHeld : Below u21.heap.size u21 u21 := Below.refl _ _
  refine wpAnyH_take (i := 22) (v := ?_) rfl (by kernel_rfl) (by kernel_rfl) (by kernel_rfl) (fun _ _ _ h => h) (Or.inl ⟨by kernel_rfl, ?hy22⟩) (by assumption) ?_
  case hy22 => (intro w hSw; (try dsimp only at hSw); go_simp; try with_reducible rfl)
  try simp only [Act.put, List.getElem_toArray, List.getElem_cons_zero, List.getElem_cons_succ, List.setIfInBounds_toArray, List.set_cons_zero, List.set_cons_succ]
  refine wpAnyH_take (i := 23) (v := ?_) rfl (by kernel_rfl) (by kernel_rfl) (by kernel_rfl) (fun _ _ _ h => h) (Or.inl ⟨by kernel_rfl, ?hy23⟩) (by assumption) ?_
  case hy23 => (intro w hSw; (try dsimp only at hSw); go_simp; try with_reducible rfl)
  try simp only [Act.put, List.getElem_toArray, List.getElem_cons_zero, List.getElem_cons_succ, List.setIfInBounds_toArray, List.set_cons_zero, List.set_cons_succ]
  refine wpAnyH_take (i := 24) (v := ?_) rfl (by kernel_rfl) (by kernel_rfl) (by kernel_rfl) (fun _ _ _ h => h) (Or.inl ⟨by kernel_rfl, ?hy24⟩) (by assumption) ?_
  case hy24 => (intro w hSw; (try dsimp only at hSw); go_simp; try with_reducible rfl)
  try simp only [Act.put, List.getElem_toArray, List.getElem_cons_zero, List.getElem_cons_succ, List.setIfInBounds_toArray, List.set_cons_zero, List.set_cons_succ]
  refine wpAnyH_take (i := 25) (v := ?_) rfl (by kernel_rfl) (by kernel_rfl) (by kernel_rfl) (fun _ _ _ h => h) (Or.inl ⟨by kernel_rfl, ?hy25⟩) (by assumption) ?_
  case hy25 => (intro w hSw; (try dsimp only at hSw); go_simp; try with_reducible rfl)
  try simp only [Act.put, List.getElem_toArray, List.getElem_cons_zero, List.getElem_cons_succ, List.setIfInBounds_toArray, List.set_cons_zero, List.set_cons_succ]
  refine wpAnyH_take (i := 27) (v := ?_) rfl (by kernel_rfl) (by kernel_rfl) (by kernel_rfl) (fun _ _ _ h => h) (Or.inl ⟨by kernel_rfl, ?hy27⟩) (by assumption) ?_
  case hy27 => (intro w hSw; (try dsimp only at hSw); go_simp; try with_reducible rfl)
  try simp only [Act.put, List.getElem_toArray, List.getElem_cons_zero, List.getElem_cons_succ, List.setIfInBounds_toArray, List.set_cons_zero, List.set_cons_succ]
  refine wpAnyH_ready (rs := [26]) (by kernel_rfl) (by simp) ?_
  refine AllReadyH.cons rfl (fun K hK => ?_) AllReadyH.nil
  go_simp
  go_wp2_with fail
  refine (CF.out _ bw).mono ?_
  rintro e u26 ⟨rfl, rfl⟩
  refine hK.out _ _ hHeld (fun _ => ?_)
  clear hK K
  refine wpAnyH_ready (rs := [28]) (by kernel_rfl) (by simp) ?_
  refine AllReadyH.cons rfl (fun K hK => ?_) AllReadyH.nil
  go_simp
  go_wp2_with fail
  refine (CW.out _ bw).mono ?_
  rintro e u28 ⟨rfl, hb⟩
  have hS' := Below.on hHeld hb
  refine hK.out _ _ hS' (fun _ => ?_)
  clear hK K
  refine wpAnyH_mono (S' := fun x => Below u28.heap.size u28 x) (fun x hx => Below.on hS' hx) ?_
  replace bw := Below.on bw hb
  replace tf0 := fun x hx => tf0 x (Below.on hS' hx)
  replace tf1 := fun x hx => tf1 x (Below.on hS' hx)
  replace tf2 := fun x hx => tf2 x (Below.on hS' hx)
  replace tp := fun x hx => tp x (Below.on hS' hx)
  replace tx0 := fun x hx => tx0 x (Below.on hS' hx)
  clear hHeld hb hS'
  have hHeld : Below u28.heap.size u28 u28 := Below.refl _ _
  refine wpAnyH_take (i := 29) (v := ?_) rfl (by kernel_rfl) (by kernel_rfl) (by kernel_rfl) (fun _ _ _ h => h) (Or.inl ⟨by kernel_rfl, ?hy29⟩) (by assumption) ?_
  case hy29 => (intro w hSw; (try dsimp only at hSw); go_simp; try with_reducible rfl)
  try simp only [Act.put, List.getElem_toArray, List.getElem_cons_zero, List.getElem_cons_succ, List.setIfInBounds_toArray, List.set_cons_zero, List.set_cons_succ]
  refine wpAnyH_take (i := 30) (v := ?_) rfl (by kernel_rfl) (by kernel_rfl) (by kernel_rfl) (fun _ _ _ h => h) (Or.inl ⟨by kernel_rfl, ?hy30⟩) (by assumption) ?_
  case hy30 => (intro w hSw; (try dsimp only at hSw); go_simp; try with_reducible rfl)
  try simp only [Act.put, List.getElem_toArray, List.getElem_cons_zero, List.getElem_cons_succ, List.setIfInBounds_toArray, List.set_cons_zero, List.set_cons_succ]
  refine wpAnyH_take (i := 31) (v := ?_) rfl (by kernel_rfl) (by kernel_rfl) (by kernel_rfl) (fun _ _ _ h => h) (Or.inl ⟨by kernel_rfl, ?hy31⟩) (by assumption) ?_
  case hy31 => (intro w hSw; (try dsimp only at hSw); go_simp; try with_reducible rfl)
  try simp only [Act.put, List.getElem_toArray, List.getElem_cons_zero, List.getElem_cons_succ, List.setIfInBounds_toArray, List.set_cons_zero, List.set_cons_succ]
  refine wpAnyH_take (i := 32) (v := ?_) rfl (by kernel_rfl) (by kernel_rfl) (by kernel_rfl) (fun _ _ _ h => h) (Or.inl ⟨by kernel_rfl, ?hy32⟩) (by assumption) ?_
  case hy32 => (intro w hSw; (try dsimp only at hSw); go_simp; try with_reducible rfl)
  try simp only [Act.put, List.getElem_toArray, List.getElem_cons_zero, List.getElem_cons_succ, List.setIfInBounds_toArray, List.set_cons_zero, List.set_cons_succ]
  refine wpAnyH_take (i := 33) (v := ?_) rfl (by kernel_rfl) (by kernel_rfl) (by kernel_rfl) (fun _ _ _ h => h) (Or.inl ⟨by kernel_rfl, ?hy33⟩) (by assumption) ?_
  case hy33 => (intro w hSw; (try dsimp only at hSw); go_simp; try with_reducible rfl)
  try simp only [Act.put, List.getElem_toArray, List.getElem_cons_zero, List.getElem_cons_succ, List.setIfInBounds_toArray, List.set_cons_zero, List.set_cons_succ]
  refine wpAnyH_ready (rs := [34]) (by kernel_rfl) (by simp) ?_
  refine AllReadyH.cons rfl (fun K hK => ?_) AllReadyH.nil
  go_simp
  go_wp2_with fail
  refine (CI.out _ bw).mono ?_
  rintro e u34 ⟨rfl, rfl⟩
  refine hK.out _ _ hHeld (fun _ => ?_)
  clear hK K
  refine wpAnyH_take (i := 35) (v := ?_) rfl (by kernel_rfl) (by kernel_rfl) (by kernel_rfl) (fun _ _ _ h => h) (Or.inl ⟨by kernel_rfl, ?hy35⟩) (by assumption) ?_
  case hy35 => (intro w hSw; (try dsimp only at hSw); go_simp; try with_reducible rfl)
  try simp only [Act.put, List.getElem_toArray, List.getElem_cons_zero, List.getElem_cons_succ, List.setIfInBounds_toArray, List.set_cons_zero, List.set_cons_succ]
  refine wpAnyH_take (i := 36) (v := ?_) rfl (by kernel_rfl) (by kernel_rfl) (by kernel_rfl) (fun _ _ _ h => h) (Or.inl ⟨by kernel_rfl, ?hy36⟩) (by assumption) ?_
  case hy36 => (intro w hSw; (try dsimp only at hSw); go_simp; try with_reducible rfl)
  try simp only [Act.put, List.getElem_toArray, List.getElem_cons_zero, List.getElem_cons_succ, List.setIfInBounds_toArray, List.set_cons_zero, List.set_cons_succ]
  refine wpAnyH_take (i := 37) (v := ?_) rfl (by kernel_rfl) (by kernel_rfl) (by kernel_rfl) (fun _ _ _ h => h) (Or.inl ⟨by kernel_rfl, ?hy37⟩) (by assumption) ?_
  case hy37 => (intro w hSw; (try dsimp only at hSw); go_simp; try with_reducible rfl)
  try simp only [Act.put, List.getElem_toArray, List.getElem_cons_zero, List.getElem_cons_succ, List.setIfInBounds_toArray, List.set_cons_zero, List.set_cons_succ]
  refine wpAnyH_take (i := 39) (v := ?_) rfl (by kernel_rfl) (by kernel_rfl) (by kernel_rfl) (fun _ _ _ h => h) (Or.inl ⟨by kernel_rfl, ?hy39⟩) (by assumption) ?_
  case hy39 => (intro w hSw; (try dsimp only at hSw); go_simp; try with_reducible rfl)
  try simp only [Act.put, List.getElem_toArray, List.getElem_cons_zero, List.getElem_cons_succ, List.setIfInBounds_toArray, List.set_cons_zero, List.set_cons_succ]
  refine wpAnyH_ready (rs := [38]) (by kernel_rfl) (by simp) ?_
  refine AllReadyH.cons rfl (fun K hK => ?_) AllReadyH.nil
  go_simp
  go_wp2_with fail
  refine (CK.out _ bw).mono ?_
  rintro e u38 ⟨rfl, hb⟩
  have hS' := Below.on hHeld hb
  refine hK.out _ _ hS' (fun _ => ?_)
  clear hK K
  refine wpAnyH_mono (S' := fun x => Below u38.heap.size u38 x) (fun x hx => Below.on hS' hx) ?_
  replace bw := Below.on bw hb
  replace tf0 := fun x hx => tf0 x (Below.on hS' hx)
  replace tf1 := fun x hx => tf1 x (Below.on hS' hx)
  replace tf2 := fun x hx => tf2 x (Below.on hS' hx)
  replace tp := fun x hx => tp x (Below.on hS' hx)
  replace tx0 := fun x hx => tx0 x (Below.on hS' hx)
  clear hHeld hb hS'
  have hHeld : Below u38.heap.size u38 u38 := Below.refl _ _
  refine wpAnyH_ready (rs := [40]) (by kernel_rfl) (by simp) ?_
  refine AllReadyH.cons rfl (fun K hK => ?_) AllReadyH.nil
  go_simp
  go_wp2_with fail
  refine (HP.out _).mono ?_
  rintro e u40 ⟨rfl, rfl⟩
  refine hK.out _ _ hHeld (fun _ => ?_)
  clear hK K
  refine wpAnyH_take (i := 41) (v := ?_) rfl (by kernel_rfl) (by kernel_rfl) (by kernel_rfl) (fun _ _ _ h => h) (Or.inl ⟨by kernel_rfl, ?hy41⟩) (by assumption) ?_
  case hy41 => (intro w hSw; (try dsimp only at hSw); go_simp; try with_reducible rfl)
  try simp only [Act.put, List.getElem_toArray, List.getElem_cons_zero, List.getElem_cons_succ, List.setIfInBounds_toArray, List.set_cons_zero, List.set_cons_succ]
  refine wpAnyH_take (i := 42) (v := ?_) rfl (by kernel_rfl) (by kernel_rfl) (by kernel_rfl) (fun _ _ _ h => h) (Or.inl ⟨by kernel_rfl, ?hy42⟩) (by assumption) ?_
  case hy42 => (intro w hSw; (try dsimp only at hSw); go_simp; try with_reducible rfl)
  try simp only [Act.put, List.getElem_toArray, List.getElem_cons_zero, List.getElem_cons_succ, List.setIfInBounds_toArray, List.set_cons_zero, List.set_cons_succ]
  refine wpAnyH_take (i := 43) (v := ?_) rfl (by kernel_rfl) (by kernel_rfl) (by kernel_rfl) (fun _ _ _ h => h) (Or.inl ⟨by kernel_rfl, ?hy43⟩) (by assumption) ?_
  case hy43 => (intro w hSw; (try dsimp only at hSw); go_simp; try with_reducible rfl)
  try simp only [Act.put, List.getElem_toArray, List.getElem_cons_zero, List.getElem_cons_succ, List.setIfInBounds_toArray, List.set_cons_zero, List.set_cons_succ]
  refine wpAnyH_take (i := 44) (v := ?_) rfl (by kernel_rfl) (by kernel_rfl) (by kernel_rfl) (fun _ _ _ h => h) (Or.inl ⟨by kernel_rfl, ?hy44⟩) (by assumption) ?_
  case hy44 => (intro w hSw; (try dsimp only at hSw); go_simp; try with_reducible rfl)
  try simp only [Act.put, List.getElem_toArray, List.getElem_cons_zero, List.getElem_cons_succ, List.setIfInBounds_toArray, List.set_cons_zero, List.set_cons_succ]
  refine wpAnyH_ready (rs := [45]) (by kernel_rfl) (by simp) ?_
  refine AllReadyH.cons rfl (fun K hK => ?_) AllReadyH.nil
  go_simp
  go_wp2_with fail
  refine (CA.out _ bw).mono ?_
  rintro e u45 ⟨rfl, hb⟩
  have hS' := Below.on hHeld hb
  refine hK.out _ _ hS' (fun _ => ?_)
  clear hK K
  refine wpAnyH_mono (S' := fun x => Below u45.heap.size u45 x) (fun x hx => Below.on hS' hx) ?_
  replace bw := Below.on bw hb
  replace tf0 := fun x hx => tf0 x (Below.on hS' hx)
  replace tf1 := fun x hx => tf1 x (Below.on hS' hx)
  replace tf2 := fun x hx => tf2 x (Below.on hS' hx)
  replace tp := fun x hx => tp x (Below.on hS' hx)
  replace tx0 := fun x hx => tx0 x (Below.on hS' hx)
  clear hHeld hb hS'
  have hHeld : Below u45.heap.size u45 u45 := Below.refl _ _
  refine wpAnyH_take (i := 46) (v := ?_) rfl (by kernel_rfl) (by kernel_rfl) (by kernel_rfl) (fun _ _ _ h => h) (Or.inl ⟨by kernel_rfl, ?hy46⟩) (by assumption) ?_
  case hy46 => (intro w hSw; (try dsimp only at hSw); go_simp; try with_reducible rfl)
  try simp only [Act.put, List.getElem_toArray, List.getElem_cons_zero, List.getElem_cons_succ, List.setIfInBounds_toArray, List.set_cons_zero, List.set_cons_succ]
  refine wpAnyH_take (i := 47) (v := ?_) rfl (by kernel_rfl) (by kernel_rfl) (by kernel_rfl) (fun _ _ _ h => h) (Or.inl ⟨by kernel_rfl, ?hy47⟩) (by assumption) ?_
  case hy47 => (intro w hSw; (try dsimp only at hSw); go_simp; try with_reducible rfl)
  try simp only [Act.put, List.getElem_toArray, List.getElem_cons_zero, List.getElem_cons_succ, List.setIfInBounds_toArray, List.set_cons_zero, List.set_cons_succ]
  refine wpAnyH_done (by kernel_rfl) ?_ _
  go_wp2
  go_ret
  exact ⟨rfl, Below.on B9.out bw⟩

theorem walk (a0 a1 a2 : Int) (s3 : ByteArray) (w : World) (_ : (Lit.int .i64 a0).wf = true) (_ : (Lit.int .i64 a1).wf = true) (_ : (Lit.int .i64 a2).wf = true) (_ : s3.size ≤ 140737488351232) (hL : laidMetH Tryd.prog Rows.faultFirstRow.laid w) :
    Calls Tryd.prog 5 #[.int .i64 a0, .int .i64 a1, .int .i64 a2, .string s3] w fun e w' => e = .returned (.bool true) ∧ Below w.heap.size w w' := by
  obtain ⟨es, hA⟩ := all17 hL
  by_cases h : s3.size ≤ 200
  · exact short a0 a1 a2 s3 w es hA h
  · exact long a0 a1 a2 s3 w es hA h
end Go.Proofs.YtghccfgoiejajaaDoor.faultFirst
