/- Lemmas that the proof leans on. -/
import Derived.Test.YtpbgbpcdohdecaaGreatDoorB02
namespace Go.Proofs.YtpbgbpcdohdecaaGreatDoor
open Go Go.RowKit
set_option maxRecDepth 100000
set_option maxHeartbeats 1000000
section
theorem eqlR_guard (x y : Operand) (xs ys : Array Value) (w : World) : (eqGuard .eql 97 x y (.agg xs) (.agg ys)).run Tryz.prog w = .ok () w := run_eqGuard_agg w .eql 97 x y xs ys (by kernel_rfl)
def rceq (a b : Rc) : Bool := a.x == b.x && (a.y == b.y && (a.w == b.w && a.h == b.h))
theorem rceq_iff {a b : Rc} : rceq a b = true ↔ a = b := by
 cases a; cases b
 simp [rceq]
theorem equalR (a b : Rc) (w : World) : (Op.equalIn 10000 97 (.agg #[.int .i64 a.x, .int .i64 a.y, .int .i64 a.w, .int .i64 a.h]) (.agg #[.int .i64 b.x, .int .i64 b.y, .int .i64 b.w, .int .i64 b.h])).run Tryz.prog w = .ok (rceq a b) w := by
 have u3 := Tryz.underlying3
 have a3 := Tryz.isAgg3
 have z3 := Tryz.sizeOf3
 have hS : Tryz.prog.underlying 97 = some (.struct (Tryz.prog.fieldsOf 97)) := by kernel_rfl
 have hp : Tryz.prog.stoodInHeld 97 = false := by kernel_rfl
 rw [show (10000 : Nat) = 9999 + 1 from rfl, run_equalIn_agg w 9999 97 _ _ hS hp]
 simp only [Program.fieldsOf, Tryz.underlying97]
 go_simp
 unfold rceq
 by_cases h1 : a.x = b.x <;> by_cases h2 : a.y = b.y <;> by_cases h3 : a.w = b.w <;> by_cases h4 : a.h = b.h <;> simp [h1, h2, h3, h4]
theorem eqlR (a b : Rc) (w : World) : (binOp .eql 97 (.agg #[.int .i64 a.x, .int .i64 a.y, .int .i64 a.w, .int .i64 a.h]) (.agg #[.int .i64 b.x, .int .i64 b.y, .int .i64 b.w, .int .i64 b.h])).run Tryz.prog w = .ok (.bool (rceq a b)) w := by
 rw [run_eql_struct, equalR]
 rfl
def chk_RectD (a : Rc) : Bool := !emp a && rceq (bnd a) a
theorem check_any_RectD (a : Rc) (ha : a.Ok) (w : World) : Calls Tryz.prog 259 #[.agg #[.int .i64 a.x, .int .i64 a.y, .int .i64 a.w, .int .i64 a.h]] w fun e w' => e = .returned (.bool (chk_RectD a)) ∧ Below w.heap.size w w' := by
 have CE := hid (fun w => empty_any a w)
 have CB := hid (fun w => bound_any a ha w)
 have hq := eqlR (bnd a) a
 have hg := eqlR_guard
 have h0 := bx_new w a
 have HA := hid h0
 have HW := hid (below_new w (.cells #[.int .i64 a.x, .int .i64 a.y, .int .i64 a.w, .int .i64 a.h] 97))
 clear ha h0
 cases he : emp a
 ·rw [he] at CE
  rw [chk_RectD, he]
  go_enter Tryz.func259, Tryz.ntmps259
  go_upto_region 1 with fail
  refine wp_region_held_drew (S := fun x => Below (w.alloc (.cells #[.int .i64 a.x, .int .i64 a.y, .int .i64 a.w, .int .i64 a.h] 97)).heap.size (w.alloc (.cells #[.int .i64 a.x, .int .i64 a.y, .int .i64 a.w, .int .i64 a.h] 97)) x) (by kernel_rfl) (Below.refl _ _).drew (fun hHeld => ?_)
  have hHeld : Below (w.alloc (.cells #[.int .i64 a.x, .int .i64 a.y, .int .i64 a.w, .int .i64 a.h] 97)).heap.size (w.alloc (.cells #[.int .i64 a.x, .int .i64 a.y, .int .i64 a.w, .int .i64 a.h] 97)) (w.alloc (.cells #[.int .i64 a.x, .int .i64 a.y, .int .i64 a.w, .int .i64 a.h] 97)).drew := hHeld
  refine wpAnyH_take (i := 0) (v := ?_) rfl (by kernel_rfl) (by kernel_rfl) (by kernel_rfl) (fun _ _ _ h => h) (Or.inl ⟨by kernel_rfl, ?hy0⟩) (by assumption) ?_
  case hy0 => (intro w hSw; (try dsimp only at hSw); obtain ⟨t00, t01, t02, t03⟩ := (HA.out.on hSw).all; go_simp; try with_reducible rfl)
  try simp only [Act.put, List.getElem_toArray, List.getElem_cons_zero, List.setIfInBounds_toArray, List.set_cons_zero, List.set_cons_succ]
  refine wpAnyH_ready (rs := [1]) (by kernel_rfl) (by simp) ?_
  refine AllReadyH.cons rfl (fun K hK => ?_) AllReadyH.nil
  go_simp
  go_wp2_with fail
  refine (CE.out _).mono ?_
  rintro e u201 ⟨rfl, hb⟩
  replace hHeld := Below.on hHeld hb
  refine hK.out _ _ hHeld (fun _ => ?_)
  clear hK K hb
  refine wpAnyH_take (i := 2) (v := ?_) rfl (by kernel_rfl) (by kernel_rfl) (by kernel_rfl) (fun _ _ _ h => h) (Or.inl ⟨by kernel_rfl, ?hy2⟩) (by assumption) ?_
  case hy2 => (intro w hSw; (try dsimp only at hSw); obtain ⟨t00, t01, t02, t03⟩ := (HA.out.on hSw).all; go_simp; try with_reducible rfl)
  try simp only [Act.put, List.getElem_toArray, List.getElem_cons_zero, List.getElem_cons_succ, List.setIfInBounds_toArray, List.set_cons_zero, List.set_cons_succ]
  refine wpAnyH_take (i := 3) (v := ?_) rfl (by kernel_rfl) (by kernel_rfl) (by kernel_rfl) (fun _ _ _ h => h) (Or.inl ⟨by kernel_rfl, ?hy3⟩) (by assumption) ?_
  case hy3 => (intro w hSw; (try dsimp only at hSw); obtain ⟨t00, t01, t02, t03⟩ := (HA.out.on hSw).all; go_simp; try with_reducible rfl)
  try simp only [Act.put, List.getElem_toArray, List.getElem_cons_zero, List.getElem_cons_succ, List.setIfInBounds_toArray, List.set_cons_zero, List.set_cons_succ]
  refine wpAnyH_take (i := 4) (v := ?_) rfl (by kernel_rfl) (by kernel_rfl) (by kernel_rfl) (fun _ _ _ h => h) (Or.inl ⟨by kernel_rfl, ?hy4⟩) (by assumption) ?_
  case hy4 => (intro w hSw; (try dsimp only at hSw); obtain ⟨t00, t01, t02, t03⟩ := (HA.out.on hSw).all; go_simp; try with_reducible rfl)
  try simp only [Act.put, List.getElem_toArray, List.getElem_cons_zero, List.getElem_cons_succ, List.setIfInBounds_toArray, List.set_cons_zero, List.set_cons_succ]
  refine wpAnyH_take (i := 6) (v := ?_) rfl (by kernel_rfl) (by kernel_rfl) (by kernel_rfl) (fun _ _ _ h => h) (Or.inl ⟨by kernel_rfl, ?hy6⟩) (by assumption) ?_
  case hy6 => (intro w hSw; (try dsimp only at hSw); obtain ⟨t00, t01, t02, t03⟩ := (HA.out.on hSw).all; go_simp; try with_reducible rfl)
  try simp only [Act.put, List.getElem_toArray, List.getElem_cons_zero, List.getElem_cons_succ, List.setIfInBounds_toArray, List.set_cons_zero, List.set_cons_succ]
  refine wpAnyH_ready (rs := [5]) (by kernel_rfl) (by simp) ?_
  refine AllReadyH.cons rfl (fun K hK => ?_) AllReadyH.nil
  go_simp
  go_wp2_with fail
  refine (CB.out _).mono ?_
  rintro e u205 ⟨rfl, hb⟩
  replace hHeld := Below.on hHeld hb
  refine hK.out _ _ hHeld (fun _ => ?_)
  clear hK K hb
  refine wpAnyH_take (i := 7) (v := ?_) rfl (by kernel_rfl) (by kernel_rfl) (by kernel_rfl) (fun _ _ _ h => h) (Or.inl ⟨by kernel_rfl, ?hy7⟩) (by assumption) ?_
  case hy7 => (intro w hSw; (try dsimp only at hSw); obtain ⟨t00, t01, t02, t03⟩ := (HA.out.on hSw).all; go_simp; try with_reducible rfl)
  try simp only [Act.put, List.getElem_toArray, List.getElem_cons_zero, List.getElem_cons_succ, List.setIfInBounds_toArray, List.set_cons_zero, List.set_cons_succ]
  refine wpAnyH_take (i := 8) (v := ?_) rfl (by kernel_rfl) (by kernel_rfl) (by kernel_rfl) (fun _ _ _ h => h) (Or.inl ⟨by kernel_rfl, ?hy8⟩) (by assumption) ?_
  case hy8 => (intro w hSw; (try dsimp only at hSw); obtain ⟨t00, t01, t02, t03⟩ := (HA.out.on hSw).all; go_simp; try with_reducible rfl)
  try simp only [Act.put, List.getElem_toArray, List.getElem_cons_zero, List.getElem_cons_succ, List.setIfInBounds_toArray, List.set_cons_zero, List.set_cons_succ]
  refine wpAnyH_take (i := 9) (v := ?_) rfl (by kernel_rfl) (by kernel_rfl) (by kernel_rfl) (fun _ _ _ h => h) (Or.inl ⟨by kernel_rfl, ?hy9⟩) (by assumption) ?_
  case hy9 => (intro w hSw; (try dsimp only at hSw); obtain ⟨t00, t01, t02, t03⟩ := (HA.out.on hSw).all; go_simp; try with_reducible rfl)
  try simp only [Act.put, List.getElem_toArray, List.getElem_cons_zero, List.getElem_cons_succ, List.setIfInBounds_toArray, List.set_cons_zero, List.set_cons_succ]
  refine wpAnyH_done (by kernel_rfl) ?_ _
  go_wp2
  go_ret
  exact ⟨ret_bool_RectA (by simp), Below.on HW.out hHeld⟩
 ·rw [he] at CE
  rw [chk_RectD, he]
  go_enter Tryz.func259, Tryz.ntmps259
  go_upto_region 1 with fail
  refine wp_region_held_drew (S := fun x => Below (w.alloc (.cells #[.int .i64 a.x, .int .i64 a.y, .int .i64 a.w, .int .i64 a.h] 97)).heap.size (w.alloc (.cells #[.int .i64 a.x, .int .i64 a.y, .int .i64 a.w, .int .i64 a.h] 97)) x) (by kernel_rfl) (Below.refl _ _).drew (fun hHeld => ?_)
  have hHeld : Below (w.alloc (.cells #[.int .i64 a.x, .int .i64 a.y, .int .i64 a.w, .int .i64 a.h] 97)).heap.size (w.alloc (.cells #[.int .i64 a.x, .int .i64 a.y, .int .i64 a.w, .int .i64 a.h] 97)) (w.alloc (.cells #[.int .i64 a.x, .int .i64 a.y, .int .i64 a.w, .int .i64 a.h] 97)).drew := hHeld
  refine wpAnyH_take (i := 0) (v := ?_) rfl (by kernel_rfl) (by kernel_rfl) (by kernel_rfl) (fun _ _ _ h => h) (Or.inl ⟨by kernel_rfl, ?hy0⟩) (by assumption) ?_
  case hy0 => (intro w hSw; (try dsimp only at hSw); obtain ⟨t00, t01, t02, t03⟩ := (HA.out.on hSw).all; go_simp; try with_reducible rfl)
  try simp only [Act.put, List.getElem_toArray, List.getElem_cons_zero, List.setIfInBounds_toArray, List.set_cons_zero, List.set_cons_succ]
  refine wpAnyH_ready (rs := [1]) (by kernel_rfl) (by simp) ?_
  refine AllReadyH.cons rfl (fun K hK => ?_) AllReadyH.nil
  go_simp
  go_wp2_with fail
  refine (CE.out _).mono ?_
  rintro e u201 ⟨rfl, hb⟩
  replace hHeld := Below.on hHeld hb
  refine hK.out _ _ hHeld (fun _ => ?_)
  clear hK K hb
  refine wpAnyH_take (i := 2) (v := ?_) rfl (by kernel_rfl) (by kernel_rfl) (by kernel_rfl) (fun _ _ _ h => h) (Or.inl ⟨by kernel_rfl, ?hy2⟩) (by assumption) ?_
  case hy2 => (intro w hSw; (try dsimp only at hSw); obtain ⟨t00, t01, t02, t03⟩ := (HA.out.on hSw).all; go_simp; try with_reducible rfl)
  try simp only [Act.put, List.getElem_toArray, List.getElem_cons_zero, List.getElem_cons_succ, List.setIfInBounds_toArray, List.set_cons_zero, List.set_cons_succ]
  refine wpAnyH_take (i := 3) (v := ?_) rfl (by kernel_rfl) (by kernel_rfl) (by kernel_rfl) (fun _ _ _ h => h) (Or.inl ⟨by kernel_rfl, ?hy3⟩) (by assumption) ?_
  case hy3 => (intro w hSw; (try dsimp only at hSw); obtain ⟨t00, t01, t02, t03⟩ := (HA.out.on hSw).all; go_simp; try with_reducible rfl)
  try simp only [Act.put, List.getElem_toArray, List.getElem_cons_zero, List.getElem_cons_succ, List.setIfInBounds_toArray, List.set_cons_zero, List.set_cons_succ]
  refine wpAnyH_take (i := 4) (v := undef) rfl (by kernel_rfl) (by kernel_rfl) (by kernel_rfl) (fun _ _ _ h => h) (Or.inr ⟨by kernel_rfl, rfl⟩) (by assumption) ?_
  try simp only [Act.put, List.getElem_toArray, List.getElem_cons_zero, List.getElem_cons_succ, List.setIfInBounds_toArray, List.set_cons_zero, List.set_cons_succ]
  refine wpAnyH_take (i := 5) (v := undef) rfl (by kernel_rfl) (by kernel_rfl) (by kernel_rfl) (fun _ _ _ h => h) (Or.inr ⟨by kernel_rfl, rfl⟩) (by assumption) ?_
  try simp only [Act.put, List.getElem_toArray, List.getElem_cons_zero, List.getElem_cons_succ, List.setIfInBounds_toArray, List.set_cons_zero, List.set_cons_succ]
  refine wpAnyH_take (i := 6) (v := undef) rfl (by kernel_rfl) (by kernel_rfl) (by kernel_rfl) (fun _ _ _ h => h) (Or.inr ⟨by kernel_rfl, rfl⟩) (by assumption) ?_
  try simp only [Act.put, List.getElem_toArray, List.getElem_cons_zero, List.getElem_cons_succ, List.setIfInBounds_toArray, List.set_cons_zero, List.set_cons_succ]
  refine wpAnyH_take (i := 7) (v := undef) rfl (by kernel_rfl) (by kernel_rfl) (by kernel_rfl) (fun _ _ _ h => h) (Or.inr ⟨by kernel_rfl, rfl⟩) (by assumption) ?_
  try simp only [Act.put, List.getElem_toArray, List.getElem_cons_zero, List.getElem_cons_succ, List.setIfInBounds_toArray, List.set_cons_zero, List.set_cons_succ]
  refine wpAnyH_take (i := 8) (v := ?_) rfl (by kernel_rfl) (by kernel_rfl) (by kernel_rfl) (fun _ _ _ h => h) (Or.inl ⟨by kernel_rfl, ?hy8⟩) (by assumption) ?_
  case hy8 => (intro w hSw; (try dsimp only at hSw); obtain ⟨t00, t01, t02, t03⟩ := (HA.out.on hSw).all; go_simp; try with_reducible rfl)
  try simp only [Act.put, List.getElem_toArray, List.getElem_cons_zero, List.getElem_cons_succ, List.setIfInBounds_toArray, List.set_cons_zero, List.set_cons_succ]
  refine wpAnyH_take (i := 9) (v := ?_) rfl (by kernel_rfl) (by kernel_rfl) (by kernel_rfl) (fun _ _ _ h => h) (Or.inl ⟨by kernel_rfl, ?hy9⟩) (by assumption) ?_
  case hy9 => (intro w hSw; (try dsimp only at hSw); obtain ⟨t00, t01, t02, t03⟩ := (HA.out.on hSw).all; go_simp; try with_reducible rfl)
  try simp only [Act.put, List.getElem_toArray, List.getElem_cons_zero, List.getElem_cons_succ, List.setIfInBounds_toArray, List.set_cons_zero, List.set_cons_succ]
  refine wpAnyH_done (by kernel_rfl) ?_ _
  go_wp2
  go_ret
  exact ⟨ret_bool_RectA (by simp), Below.on HW.out hHeld⟩
end
section
def inn (v : Int) : Bool := decide (-16777216 ≤ v) && decide (v ≤ 16777216)
def dck (a : Rc) : Bool := !emp a && inn a.x && inn a.y && decide (a.w ≤ 16777216 - a.x) && decide (a.h ≤ 16777216 - a.y)
end
section
structure Ck (a : Rc) : Prop where
 w : 1 ≤ a.w
 h : 1 ≤ a.h
 x : -16777216 ≤ a.x
 y : -16777216 ≤ a.y
 r : a.x + a.w ≤ 16777216
 b : a.y + a.h ≤ 16777216
theorem dck_iff {a : Rc} : dck a = true ↔ Ck a := by
 simp only [dck, inn, emp, Bool.and_eq_true, Bool.not_eq_true', Bool.or_eq_false_iff, decide_eq_true_eq, decide_eq_false_iff_not]
 exact ⟨fun ⟨⟨⟨⟨⟨h1, h2⟩, h3, h4⟩, h5, h6⟩, h7⟩, h8⟩ => ⟨by omega, by omega, h3, h5, by omega, by omega⟩, fun ⟨h1, h2, h3, h4, h5, h6⟩ => ⟨⟨⟨⟨⟨by omega, by omega⟩, h3, by omega⟩, h4, by omega⟩, by omega⟩, by omega⟩⟩
theorem Ck.emp {a : Rc} (h : Ck a) : emp a = false := by
 have h1 := h.w
 have h2 := h.h
 simp [Go.Proofs.YtpbgbpcdohdecaaGreatDoor.emp]
 omega
theorem Ck.ok {a : Rc} (h : Ck a) : a.Ok := by
 obtain ⟨h1, h2, h3, h4, h5, h6⟩ := h
 exact ⟨by omega, by omega, by omega, by omega⟩
theorem Ck.enx {a : Rc} (h : Ck a) : en a.x a.w = a.x + a.w := by
 have := h.r
 rw [en, if_pos (by omega)]
theorem Ck.eny {a : Rc} (h : Ck a) : en a.y a.h = a.y + a.h := by
 have := h.b
 rw [en, if_pos (by omega)]
def may (a : Rc) : Bool := dck a || emp a
theorem may_cases {a : Rc} (h : may a = true) : emp a = true ∨ Ck a := by
 simp only [may, Bool.or_eq_true] at h
 rcases h with h | h
 ·exact .inr (dck_iff.1 h)
 ·exact .inl h
end
section
theorem bnd_full {a : Rc} (he : emp a = false) : bnd a = oft (max a.x (-16777216)) (max a.y (-16777216)) (ed a.x a.w) (ed a.y a.h) := by
 rw [bnd, cut_full he (by decide)]
 have h1 : en fld.x fld.w = 16777216 := by decide
 have h2 : en fld.y fld.h = 16777216 := by decide
 have h3 : ∀ p s : Int, min (en p s) 16777216 = ed p s := fun p s => by
  unfold en ed
  split <;> split <;> omega
 rw [h1, h2, h3, h3]
 rfl
theorem bnd_emp {a : Rc} (he : emp a = true) : bnd a = rz := cut_emp1 he _
theorem chk_dck {a : Rc} (ok : a.Ok) : chk_RectD a = dck a := by
 apply Bool.eq_iff_iff.2
 rw [dck_iff, chk_RectD, Bool.and_eq_true, Bool.not_eq_true', rceq_iff]
 obtain ⟨⟨o1, o2⟩, ⟨o3, o4⟩, ⟨o5, o6⟩, o7, o8⟩ := ok
 constructor
 ·rintro ⟨he, hq⟩
  obtain ⟨z1, z2⟩ := sizes he
  rw [bnd_full he] at hq
  by_cases h1 : ed a.x a.w ≤ max a.x (-16777216)
  ·rw [oft_left h1] at hq
   rw [← hq] at z1
   exact absurd z1 (by decide)
  ·by_cases h2 : ed a.y a.h ≤ max a.y (-16777216)
   ·rw [oft_top h2] at hq
    rw [← hq] at z1
    exact absurd z1 (by decide)
   ·rw [oft_full h1 h2] at hq
    have e1 := congrArg Rc.x hq
    have e2 := congrArg Rc.y hq
    have e3 := congrArg Rc.w hq
    have e4 := congrArg Rc.h hq
    simp only [ed] at e1 e2 e3 e4
    refine ⟨z1, z2, by omega, by omega, ?_, ?_⟩
    ·split at e3 <;> omega
    ·split at e4 <;> omega
 ·intro k
  refine ⟨k.emp, ?_⟩
  rw [bnd_full k.emp]
  obtain ⟨k1, k2, k3, k4, k5, k6⟩ := k
  have e1 : ed a.x a.w = a.x + a.w := by rw [ed, if_pos k5]
  have e2 : ed a.y a.h = a.y + a.h := by rw [ed, if_pos k6]
  rw [e1, e2, oft_full (by omega) (by omega)]
  have e3 : max a.x (-16777216) = a.x := by omega
  have e4 : max a.y (-16777216) = a.y := by omega
  rw [e3, e4]
  have e5 : a.x + a.w - a.x = a.w := by omega
  have e6 : a.y + a.h - a.y = a.h := by omega
  rw [e5, e6]
end
section
theorem has_iff {a : Rc} {x y : Int} : has a x y = true ↔ 1 ≤ a.w ∧ 1 ≤ a.h ∧ a.x ≤ x ∧ x < a.x + a.w ∧ a.y ≤ y ∧ y < a.y + a.h := by
 simp only [has, emp, wth, Bool.and_eq_true, Bool.not_eq_true', Bool.or_eq_false_iff, decide_eq_true_eq, decide_eq_false_iff_not]
 omega
end
section
def pt (l : List Rc) (x y : Int) : Bool := l.any fun r => has r x y
theorem pt_iff {l : List Rc} {x y : Int} : pt l x y = true ↔ ∃ r ∈ l, has r x y = true := by simp [pt]
theorem pt_no {l : List Rc} {x y : Int} : pt l x y = false ↔ ∀ r ∈ l, has r x y = false := by simp [pt]
def Aft (a r : Rc) : Prop := (r.y = a.y ∧ r.h = a.h ∧ a.x + a.w < r.x) ∨ a.y + a.h ≤ r.y
structure Bands (l : List Rc) : Prop where
 ck : ∀ r ∈ l, Ck r
 aft : l.Pairwise Aft
structure Reg (l : List Rc) : Prop where
 ck : ∀ r ∈ l, Ck r
 aft : l.Pairwise Aft
 top : ∀ r ∈ l, ∃ x, pt l x (r.y - 1) ≠ pt l x r.y
theorem Reg.bands {l : List Rc} (h : Reg l) : Bands l := ⟨h.ck, h.aft⟩
theorem pairwise_two {α : Type} {R : α → α → Prop} {l : List α} (h : l.Pairwise R) {a b : α} (ha : a ∈ l) (hb : b ∈ l) : a = b ∨ R a b ∨ R b a := by
 induction l with
 | nil => cases ha
 | cons c l ih =>
  rw [List.pairwise_cons] at h
  rcases List.mem_cons.1 ha with rfl | ha'
  ·rcases List.mem_cons.1 hb with rfl | hb'
   ·exact .inl rfl
   ·exact .inr (.inl (h.1 _ hb'))
  ·rcases List.mem_cons.1 hb with rfl | hb'
   ·exact .inr (.inr (h.1 _ ha'))
   ·exact ih h.2 ha' hb'
theorem Bands.two {l : List Rc} (h : Bands l) {a b : Rc} (ha : a ∈ l) (hb : b ∈ l) : a = b ∨ Aft a b ∨ Aft b a := pairwise_two h.aft ha hb
theorem Bands.meet {l : List Rc} (h : Bands l) {a b : Rc} (ha : a ∈ l) (hb : b ∈ l) {y : Int} (h1 : a.y ≤ y ∧ y < a.y + a.h) (h2 : b.y ≤ y ∧ y < b.y + b.h) : a.y = b.y ∧ a.h = b.h ∧ (a = b ∨ a.x + a.w < b.x ∨ b.x + b.w < a.x) := by
 rcases h.two ha hb with rfl | h3 | h3
 ·exact ⟨rfl, rfl, .inl rfl⟩
 ·rcases h3 with ⟨e1, e2, e3⟩ | h3
  ·exact ⟨e1.symm, e2.symm, .inr (.inl e3)⟩
  ·omega
 ·rcases h3 with ⟨e1, e2, e3⟩ | h3
  ·exact ⟨e1, e2, .inr (.inr e3)⟩
  ·omega
theorem order_eq {α : Type} {R : α → α → Prop} (l m : List α) (hl : l.Pairwise R) (hm : m.Pairwise R) (asy : ∀ a ∈ l, ∀ b ∈ l, R a b → R b a → False) (same : ∀ a, a ∈ l ↔ a ∈ m) : l = m := by
 induction l generalizing m with
 | nil =>
  cases m with
  | nil => rfl
  | cons b m => exact absurd ((same b).2 (by simp)) (by simp)
 | cons a l ih =>
  cases m with
  | nil => exact absurd ((same a).1 (by simp)) (by simp)
  | cons b m =>
   rw [List.pairwise_cons] at hl hm
   have e : a = b := by
    rcases List.mem_cons.1 ((same a).1 (by simp)) with h | h
    ·exact h
    ·rcases List.mem_cons.1 ((same b).2 (by simp)) with h' | h'
     ·exact h'.symm
     ·exact (asy a (by simp) b (by simp [h']) (hl.1 b h') (hm.1 a h)).elim
   subst e
   rw [ih m hl.2 hm.2 (fun x hx y hy => asy x (by simp [hx]) y (by simp [hy])) (fun x => ?_)]
   constructor
   ·intro hx
    rcases List.mem_cons.1 ((same x).1 (by simp [hx])) with rfl | h
    ·exact (asy x (by simp) x (by simp) (hl.1 x hx) (hl.1 x hx)).elim
    ·exact h
   ·intro hx
    rcases List.mem_cons.1 ((same x).2 (by simp [hx])) with rfl | h
    ·exact (asy x (by simp) x (by simp) (hm.1 x hx) (hm.1 x hx)).elim
    ·exact h
def par : List Int → Int → Bool
 | [], _ => false
 | e :: t, x => decide (e ≤ x) ^^ par t x
theorem par_below {l : List Int} {x : Int} (h : ∀ e ∈ l, x < e) : par l x = false := by
 induction l with
 | nil => rfl
 | cons e t ih =>
  have h1 := h e (by simp)
  rw [par, ih fun k hk => h k (by simp [hk]), decide_eq_false (by omega)]
  rfl
theorem par_above {l : List Int} {x : Int} (h : ∀ e ∈ l, e ≤ x) : par l x = decide (l.length % 2 = 1) := by
 induction l with
 | nil => rfl
 | cons e t ih =>
  rw [par, ih fun k hk => h k (by simp [hk]), decide_eq_true (h e (by simp)), List.length_cons, Bool.eq_iff_iff]
  simp
  omega
theorem par_eq {l m : List Int} (hl : l.Pairwise (· < ·)) (hm : m.Pairwise (· < ·)) (h : ∀ x, par l x = par m x) : l = m := by
 induction l generalizing m with
 | nil =>
  cases m with
  | nil => rfl
  | cons b m =>
   rw [List.pairwise_cons] at hm
   have := h b
   rw [par, par, par_below hm.1] at this
   simp at this
 | cons a l ih =>
  rw [List.pairwise_cons] at hl
  cases m with
  | nil =>
   have := h a
   rw [par, par, par_below hl.1] at this
   simp at this
  | cons b m =>
   rw [List.pairwise_cons] at hm
   have e : a = b := by
    rcases Int.lt_trichotomy a b with h1 | h1 | h1
    ·have := h a
     rw [par, par_below hl.1, par_below (l := b :: m) (fun k hk => by
      rcases List.mem_cons.1 hk with rfl | hk
      ·exact h1
      ·have := hm.1 k hk; omega)] at this
     simp at this
    ·exact h1
    ·have := h b
     rw [par_below (l := a :: l) (fun k hk => by
      rcases List.mem_cons.1 hk with rfl | hk
      ·exact h1
      ·have := hl.1 k hk; omega), par, par_below hm.1] at this
     simp at this
   subst e
   rw [ih hl.2 hm.2 fun x => ?_]
   have := h x
   rw [par, par] at this
   exact Bool.xor_right_inj.1 this
def prs (y h : Int) : List Int → List Rc
 | a :: b :: t => ⟨a, y, b - a, h⟩ :: prs y h t
 | _ => []
theorem prs_mem {y h : Int} {r : Rc} : ∀ {e : List Int}, e.Pairwise (· < ·) → r ∈ prs y h e → r.y = y ∧ r.h = h ∧ 1 ≤ r.w ∧ r.x ∈ e ∧ r.x + r.w ∈ e
 | [], _, hr => by simp [prs] at hr
 | [_], _, hr => by simp [prs] at hr
 | a :: b :: t, hp, hr => by
  rw [List.pairwise_cons, List.pairwise_cons] at hp
  rw [prs] at hr
  rcases List.mem_cons.1 hr with rfl | hr
  ·have := hp.1 b (by simp)
   exact ⟨rfl, rfl, by simp only; omega, by simp, by simp only; rw [show a + (b - a) = b by omega]; simp⟩
  ·obtain ⟨h1, h2, h3, h4, h5⟩ := prs_mem hp.2.2 hr
   exact ⟨h1, h2, h3, by simp [h4], by simp [h5]⟩
theorem prs_aft {y h : Int} : ∀ {e : List Int}, e.Pairwise (· < ·) → (prs y h e).Pairwise Aft
 | [], _ => by simp [prs]
 | [_], _ => by simp [prs]
 | a :: b :: t, hp => by
  rw [List.pairwise_cons, List.pairwise_cons] at hp
  rw [prs, List.pairwise_cons]
  refine ⟨fun r hr => ?_, prs_aft hp.2.2⟩
  obtain ⟨h1, h2, h3, h4, h5⟩ := prs_mem hp.2.2 hr
  have := hp.2.1 _ h4
  exact .inl ⟨h1, h2, by simp only; omega⟩
theorem pt_cons (r : Rc) (l : List Rc) (x y : Int) : pt (r :: l) x y = (has r x y || pt l x y) := by simp [pt]
theorem pt_append (a b : List Rc) (x y : Int) : pt (a ++ b) x y = (pt a x y || pt b x y) := by simp [pt]
theorem pt_nil (x y : Int) : pt [] x y = false := rfl
theorem prs_pt {y h : Int} (hh : 1 ≤ h) (x z : Int) : ∀ {e : List Int}, e.Pairwise (· < ·) → e.length % 2 = 0 → pt (prs y h e) x z = (decide (y ≤ z) && decide (z < y + h) && par e x)
 | [], _, _ => by simp [prs, pt, par]
 | [_], _, h2 => by simp at h2
 | a :: b :: t, hp, h2 => by
  rw [List.pairwise_cons, List.pairwise_cons] at hp
  rw [prs, pt_cons, prs_pt hh x z hp.2.2 (by simpa [Nat.add_assoc] using h2)]
  have h1 := hp.1 b (by simp)
  rw [par, par]
  by_cases hz : y ≤ z ∧ z < y + h
  ·rw [decide_eq_true hz.1, decide_eq_true hz.2, Bool.true_and, Bool.true_and, Bool.true_and]
   by_cases ha : a ≤ x
   ·by_cases hb : b ≤ x
    ·have : has ⟨a, y, b - a, h⟩ x z = false := by
      cases hq : has ⟨a, y, b - a, h⟩ x z
      ·rfl
      ·rw [has_iff] at hq; simp only at hq; omega
     rw [this, decide_eq_true ha, decide_eq_true hb]
     cases par t x <;> rfl
    ·have : has ⟨a, y, b - a, h⟩ x z = true := has_iff.2 ⟨by simp only; omega, by simp only; omega, by simp only; omega, by simp only; omega, by simp only; omega, by simp only; omega⟩
     rw [this, decide_eq_true ha, decide_eq_false hb, par_below fun k hk => by have := hp.2.1 k hk; omega]
     rfl
   ·have : has ⟨a, y, b - a, h⟩ x z = false := by
     cases hq : has ⟨a, y, b - a, h⟩ x z
     ·rfl
     ·rw [has_iff] at hq; simp only at hq; omega
    rw [this, decide_eq_false ha, decide_eq_false (by omega), par_below fun k hk => by have := hp.2.1 k hk; omega]
    rfl
  ·have : has ⟨a, y, b - a, h⟩ x z = false := by
    cases hq : has ⟨a, y, b - a, h⟩ x z
    ·rfl
    ·rw [has_iff] at hq; simp only at hq; omega
   rw [this]
   have : (decide (y ≤ z) && decide (z < y + h)) = false := by
    rw [← Bool.not_eq_true, Bool.and_eq_true, decide_eq_true_eq, decide_eq_true_eq]
    exact hz
   rw [this]
   rfl
def fin (E : Int → List Int) (y0 : Int) (e : List Int) : List Int → List Rc
 | [] => []
 | y :: t => if E y = e then fin E y0 e t else prs y0 (y - y0) e ++ fin E y (E y) t
def Turns (E : Int → List Int) (y0 : Int) (e : List Int) : List Int → Prop
 | [] => ∀ z, y0 ≤ z → E z = []
 | y :: t => y0 < y ∧ (∀ z, y0 ≤ z → z < y → E z = e) ∧ Turns E y (E y) t
theorem Turns.on {E : Int → List Int} {y0 y : Int} {e : List Int} {t : List Int} (h0 : y0 < y) (hz : ∀ z, y0 ≤ z → z < y → E z = e) (he : E y = e) (h : Turns E y (E y) t) : Turns E y0 e t := by
 cases t with
 | nil =>
  intro z h1
  rcases Int.lt_or_le z y with h2 | h2
  ·rw [hz z h1 h2, ← he]; exact h y (Int.le_refl _)
  ·exact h z h2
 | cons y' t =>
  obtain ⟨h1, h2, h3⟩ := h
  refine ⟨by omega, fun z h4 h5 => ?_, h3⟩
  rcases Int.lt_or_le z y with h6 | h6
  ·exact hz z h4 h6
  ·rw [h2 z h6 h5, he]
structure Edges (E : Int → List Int) : Prop where
 rise : ∀ z, (E z).Pairwise (· < ·)
 even : ∀ z, (E z).length % 2 = 0
theorem fin_pt {E : Int → List Int} (hE : Edges E) (x z : Int) : ∀ (ys : List Int) (y0 : Int) (e : List Int), e.Pairwise (· < ·) → e.length % 2 = 0 → Turns E y0 e ys → pt (fin E y0 e ys) x z = (decide (y0 ≤ z) && par (E z) x)
 | [], y0, e, _, _, h => by
  rw [fin, pt_nil]
  by_cases h1 : y0 ≤ z
  ·rw [h z h1, par, Bool.and_false]
  ·rw [decide_eq_false h1]; rfl
 | y :: t, y0, e, hr, he, h => by
  obtain ⟨h1, h2, h3⟩ := h
  rw [fin]
  by_cases hh : E y = e
  ·rw [if_pos hh]
   exact fin_pt hE x z t y0 e hr he (Turns.on h1 h2 hh h3)
  ·rw [if_neg hh, pt_append, prs_pt (by omega) x z hr he, fin_pt hE x z t y (E y) (hE.rise y) (hE.even y) h3]
   by_cases h4 : y0 ≤ z
   ·by_cases h5 : z < y
    ·rw [h2 z h4 h5, decide_eq_true h4, decide_eq_true (show z < y0 + (y - y0) by omega), decide_eq_false (show ¬ y ≤ z by omega)]
     simp
    ·rw [decide_eq_true h4, decide_eq_false (show ¬ z < y0 + (y - y0) by omega), decide_eq_true (show y ≤ z by omega)]
     simp
   ·rw [decide_eq_false h4, decide_eq_false (show ¬ y ≤ z by omega)]
    simp
theorem fin_mem {E : Int → List Int} (hE : Edges E) {r : Rc} : ∀ (ys : List Int) (y0 : Int) (e : List Int), e.Pairwise (· < ·) → E y0 = e → Turns E y0 e ys → r ∈ fin E y0 e ys →
  y0 ≤ r.y ∧ 1 ≤ r.h ∧ 1 ≤ r.w ∧ r.x ∈ E r.y ∧ r.x + r.w ∈ E r.y ∧ (r.y = y0 ∨ (r.y ∈ ys ∧ E (r.y - 1) ≠ E r.y)) ∧ r.y + r.h ∈ ys
 | [], _, _, _, _, _, hr => by rw [fin] at hr; cases hr
 | y :: t, y0, e, hp, he, h, hr => by
  obtain ⟨h1, h2, h3⟩ := h
  rw [fin] at hr
  by_cases hh : E y = e
  ·rw [if_pos hh] at hr
   obtain ⟨g1, g2, g3, g4, g5, g6, g7⟩ := fin_mem hE t y0 e hp he (Turns.on h1 h2 hh h3) hr
   refine ⟨g1, g2, g3, g4, g5, ?_, by simp [g7]⟩
   rcases g6 with g6 | ⟨g6, g8⟩
   ·exact .inl g6
   ·exact .inr ⟨by simp [g6], g8⟩
  ·rw [if_neg hh] at hr
   rcases List.mem_append.1 hr with hr | hr
   ·obtain ⟨g1, g2, g3, g4, g5⟩ := prs_mem hp hr
    rw [g1, g2, he]
    exact ⟨Int.le_refl _, by omega, g3, g4, g5, .inl rfl, by rw [show y0 + (y - y0) = y by omega]; simp⟩
   ·obtain ⟨g1, g2, g3, g4, g5, g6, g7⟩ := fin_mem hE t y (E y) (hE.rise y) rfl h3 hr
    refine ⟨by omega, g2, g3, g4, g5, .inr ?_, by simp [g7]⟩
    rcases g6 with g6 | ⟨g6, g8⟩
    ·refine ⟨by simp [g6], ?_⟩
     rw [g6, h2 (y - 1) (by omega) (by omega)]
     exact fun e' => hh e'.symm
    ·exact ⟨by simp [g6], g8⟩
theorem fin_aft {E : Int → List Int} (hE : Edges E) : ∀ (ys : List Int) (y0 : Int) (e : List Int), e.Pairwise (· < ·) → E y0 = e → Turns E y0 e ys → (fin E y0 e ys).Pairwise Aft
 | [], _, _, _, _, _ => by rw [fin]; exact List.Pairwise.nil
 | y :: t, y0, e, hp, he, h => by
  obtain ⟨h1, h2, h3⟩ := h
  rw [fin]
  by_cases hh : E y = e
  ·rw [if_pos hh]
   exact fin_aft hE t y0 e hp he (Turns.on h1 h2 hh h3)
  ·rw [if_neg hh, List.pairwise_append]
   refine ⟨prs_aft hp, fin_aft hE t y (E y) (hE.rise y) rfl h3, fun a ha b hb => ?_⟩
   obtain ⟨g1, g2, g3, g4, g5⟩ := prs_mem hp ha
   have := (fin_mem hE t y (E y) (hE.rise y) rfl h3 hb).1
   exact .inr (by omega)
theorem fin_reg {E : Int → List Int} (hE : Edges E) {ys : List Int} {y0 : Int} (h0 : ∀ z, z ≤ y0 → E z = []) (hT : Turns E y0 [] ys) (hx : ∀ z, ∀ k ∈ E z, -16777216 ≤ k ∧ k ≤ 16777216) (hy : ∀ y ∈ ys, -16777216 ≤ y ∧ y ≤ 16777216) :
  Reg (fin E y0 [] ys) ∧ (∀ x z, pt (fin E y0 [] ys) x z = par (E z) x) ∧ (∀ r ∈ fin E y0 [] ys, r.x ∈ E r.y ∧ r.x + r.w ∈ E r.y ∧ r.y ∈ ys ∧ r.y + r.h ∈ ys) := by
 have hm : ∀ r ∈ fin E y0 [] ys, _ := fun r hr => fin_mem hE (r := r) ys y0 [] (by simp) (h0 y0 (Int.le_refl _)) hT hr
 have hp : ∀ x z, pt (fin E y0 [] ys) x z = par (E z) x := fun x z => by
  rw [fin_pt hE x z ys y0 [] (by simp) rfl hT]
  by_cases h : y0 ≤ z
  ·rw [decide_eq_true h, Bool.true_and]
  ·rw [decide_eq_false h, h0 z (by omega)]; rfl
 have hn : ∀ r ∈ fin E y0 [] ys, r.y ∈ ys ∧ E (r.y - 1) ≠ E r.y := fun r hr => by
  obtain ⟨g1, g2, g3, g4, g5, g6, g7⟩ := hm r hr
  rcases g6 with g6 | g6
  ·rw [h0 r.y (by omega)] at g4; cases g4
  ·exact g6
 refine ⟨⟨fun r hr => ?_, fin_aft hE ys y0 [] (by simp) (h0 y0 (Int.le_refl _)) hT, fun r hr => ?_⟩, hp, fun r hr => ?_⟩
 ·obtain ⟨g1, g2, g3, g4, g5, g6, g7⟩ := hm r hr
  have a1 := hx _ _ g4
  have a2 := hx _ _ g5
  have a3 := hy _ g7
  have a4 := hy _ (hn r hr).1
  exact ⟨g3, g2, a1.1, a4.1, a2.2, a3.2⟩
 ·refine Classical.byContradiction fun hc => (hn r hr).2 (par_eq (hE.rise _) (hE.rise _) fun x => ?_)
  rw [← hp, ← hp]
  exact Classical.byContradiction fun h => hc ⟨x, h⟩
 ·obtain ⟨g1, g2, g3, g4, g5, g6, g7⟩ := hm r hr
  exact ⟨g4, g5, (hn r hr).1, g7⟩
theorem fin_congr {E E' : Int → List Int} (h : ∀ z, E z = E' z) (y0 : Int) (e : List Int) (ys : List Int) : fin E y0 e ys = fin E' y0 e ys := by rw [funext h]
end
end Go.Proofs.YtpbgbpcdohdecaaGreatDoor
