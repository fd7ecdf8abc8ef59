/- The program's windows: findTop, IsTop, Mapped, Waits, Add, Drop, Top, Untop. -/
import Derived.Test.YtnlaegleekghmaaDoorShC
namespace Go.Proofs.YtnlaegleekghmaaDoor
open Go Go.RowKit

variable {base : Nat} {w w' : World} {p m : Nat} {L : Pwl} {id : Int} {es : List Addr} {e : Pw}
theorem wErr_no {f : Wn → Nat} (hq : gt L id = none) : wErr (wab L) id f = 5 := by rw [wErr, gt_wab, hq]; rfl
theorem wErr_yes {f : Wn → Nat} (hq : gt L id = some e) : wErr (wab L) id f = f e.s := by rw [wErr, gt_wab, hq]; rfl
theorem wUp_no {f : Wn → Option Wn} (hq : gt L id = none) : wUp (wab L) id f = wab L := by rw [wUp, gt_wab, hq]; rfl
theorem wUp_none {f : Wn → Option Wn} (hq : gt L id = some e) (hf : f e.s = none) : wUp (wab L) id f = wab L := by rw [wUp, gt_wab, hq]; simp only [Option.map_some, hf]
theorem wUp_some {f : Wn → Option Wn} {y : Wn} (hq : gt L id = some e) (hf : f e.s = some y) : wUp (wab L) id f = st (wab L) id y := by rw [wUp, gt_wab, hq]; simp only [Option.map_some, hf]
theorem below_drew1 (w : World) (q : Nat) : Below w.heap.size w (w.drewN q) := below_drewN (Below.refl _ _) q

set_option maxRecDepth 100000 in
theorem sfindTop_no (hE : We w es) (h : Sh base w p m L) (id : Int) (hi : Bw id) (hq : ∀ e, gt L id = some e → e.s.step = 0) :
    Calls Tryd.prog 35 #[.pointer (some ⟨p, 0, none⟩), .int .i64 id] w fun e w' => e = .returned (.tuple #[.pointer none, erv es 5]) ∧ ∃ q, w' = w.drewN q := by
  cases hg : gt L id with
  | none =>
    have HF := hid (sfind_no hE h id hi hg)
    clear hg hq h hE
    go_enter Tryd.func35, Tryd.ntmps35
    go_wp2_with fail
    refine HF.out.mono ?_
    rintro e w1 ⟨rfl, q1, rfl⟩
    rw [erw_succ]
    go_wp2
    go_ret2
    exact ⟨rfl, q1, rfl⟩
  | some e =>
    have HF := hid (sfind_yes h id hi hg)
    have HT := hid (sistop_any (h.cs hg).1 (h.wlt hg (mem_wbk.2 (.inl rfl))).2 false (by rw [hq e hg]; rfl))
    have c5 := hE.obj
    have l5 := World.block_lt_of_cell? _ _ c5
    clear hg hq h hE
    go_enter Tryd.func35, Tryd.ntmps35
    go_wp2_with fail
    refine HF.out.mono ?_
    rintro e w1 ⟨rfl, rfl⟩
    go_wp2_with fail
    refine HT.out.mono ?_
    rintro e w1 ⟨rfl, rfl⟩
    go_wp2
    go_region
    go_wp2
    go_ret2
    exact ⟨rfl, 1, rfl⟩
set_option maxRecDepth 100000 in
theorem sfindTop_yes (h : Sh base w p m L) (id : Int) (hi : Bw id) (hg : gt L id = some e) (hs : e.s.step ≠ 0) :
    Calls Tryd.prog 35 #[.pointer (some ⟨p, 0, none⟩), .int .i64 id] w fun e' w' => e' = .returned (.tuple #[.pointer (some ⟨e.g, 0, none⟩), .nilIface]) ∧ w' = w := by
  have HF := hid (sfind_yes h id hi hg)
  have HT := hid (sistop_any (h.cs hg).1 (h.wlt hg (mem_wbk.2 (.inl rfl))).2 true (decide_eq_true (by omega)))
  clear hg hs h
  go_enter Tryd.func35, Tryd.ntmps35
  go_wp2_with fail
  refine HF.out.mono ?_
  rintro e w1 ⟨rfl, rfl⟩
  go_wp2_with fail
  refine HT.out.mono ?_
  rintro e w1 ⟨rfl, rfl⟩
  go_wp2
  go_ret2
  exact ⟨rfl, rfl⟩
set_option maxRecDepth 100000 in
theorem stop_any (hE : We w es) (h : Sh base w p m L) (id : Int) (hi : Bw id) :
    Calls Tryd.prog 26 #[.pointer (some ⟨p, 0, none⟩), .int .i64 id] w fun e w' => e = .returned (.bool (wIsTop (wab L) id)) ∧ ∃ q, w' = w.drewN q := by
  by_cases hq : ∀ e, gt L id = some e → e.s.step = 0
  · have HF := hid (sfindTop_no hE h id hi hq)
    have HR : Hid (wIsTop (wab L) id = false) := by
      rw [Hid, wIsTop, gt_wab]
      cases hg : gt L id with
      | none => rfl
      | some e => simp [hq e hg]
    rw [HR.out]
    clear hq h hE
    go_enter Tryd.func26, Tryd.ntmps26
    go_wp2_with fail
    refine HF.out.mono ?_
    rintro e w1 ⟨rfl, q1, rfl⟩
    rw [erw_succ]
    go_wp2
    go_ret
    exact ⟨rfl, q1, rfl⟩
  · obtain ⟨e, hq⟩ := Classical.not_forall.1 hq
    obtain ⟨hg, hs⟩ := Classical.not_imp.1 hq
    have HF := hid (sfindTop_yes h id hi hg hs)
    have HR : Hid (wIsTop (wab L) id = true) := by
      rw [Hid, wIsTop, gt_wab, hg]
      simp
      omega
    rw [HR.out]
    clear hq h hE hg hs
    go_enter Tryd.func26, Tryd.ntmps26
    go_wp2_with fail
    refine HF.out.mono ?_
    rintro e w1 ⟨rfl, rfl⟩
    go_wp2
    go_ret
    exact ⟨rfl, 0, rfl⟩
set_option maxRecDepth 100000 in
theorem smapped_any (hE : We w es) (h : Sh base w p m L) (id : Int) (hi : Bw id) :
    Calls Tryd.prog 28 #[.pointer (some ⟨p, 0, none⟩), .int .i64 id] w fun e w' => e = .returned (.bool (wMapd (wab L) id)) ∧ ∃ q, w' = w.drewN q := by
  cases hg : gt L id with
  | none =>
    have HF := hid (sfind_no hE h id hi hg)
    have HR : Hid (wMapd (wab L) id = false) := by rw [Hid, wMapd, gt_wab, hg]; rfl
    rw [HR.out]
    clear hg h hE
    go_enter Tryd.func28, Tryd.ntmps28
    go_wp2_with fail
    refine HF.out.mono ?_
    rintro e w1 ⟨rfl, q1, rfl⟩
    rw [erw_succ]
    go_wp2
    go_ret
    exact ⟨rfl, q1, rfl⟩
  | some e =>
    have HF := hid (sfind_yes h id hi hg)
    have c0 := (h.cs hg).1
    have l0 := (h.wlt hg (mem_wbk.2 (.inl rfl))).2
    have HR : Hid (wMapd (wab L) id = (e.s.step == 4)) := by rw [Hid, wMapd, gt_wab, hg]; rfl
    rw [HR.out]
    clear hg h hE
    generalize e.s.step = k at c0 ⊢
    have e1 : ((k : Int) == 4) = (k == 4) := by rw [Bool.eq_iff_iff]; simp; omega
    cases e2 : (k == 4)
    all_goals
      rw [e2] at e1
      go_enter Tryd.func28, Tryd.ntmps28
      go_wp2_with fail
      refine HF.out.mono ?_
      rintro e w1 ⟨rfl, rfl⟩
      go_wp2
      go_ret
      exact ⟨rfl, 0, rfl⟩

theorem eqlZ0 (w : World) : (binOp BinOp.eql 47 (.slice none 0 0) (.slice none 0 0)).run Tryd.prog w = .ok (.bool true) w := by kernel_rfl
theorem eqlZ1 (x : Addr) (n c : Nat) (w : World) : (binOp BinOp.eql 47 (.slice (some x) n c) (.slice none 0 0)).run Tryd.prog w = .ok (.bool false) w := by kernel_rfl
theorem own_emptyZ (w : World) : (w.alloc (.cells #[] 3)).ownsRow w.heap.size 3 1 (.slice (some ⟨w.heap.size, 0, none⟩) 0 0) 0 [] :=
  ⟨by simp, .inr ⟨w.heap.size, 0, #[], rfl, Nat.le_refl _, heap_alloc_new w _, Nat.le_refl _, Nat.zero_le _, by simp, by simp⟩⟩
set_option maxRecDepth 100000 in
set_option maxHeartbeats 1000000 in
theorem sclone_any (s : Option Addr) (n c : Nat) (l : List Int) (w : World) (hr : Rz w s n c l) (hn : n ≤ 1000000) :
    Calls Tryd.prog 40 #[.slice s n c] w fun e w' => ∃ v, e = .returned v ∧ OwZ w w' v l := by
  obtain ⟨i0, hi, hz0, hz1, hz2⟩ := infoZp
  have HL := hid hr.len
  have hb : Below w.heap.size w (w.alloc (.cells #[] 3)) := (Below.refl _ _).alloc (Nat.le_refl _) _
  have HS := hid ((hr.on hb).src (P := Tryd.prog) (t := 47) (e := 3) Tryd.underlying47)
  have HO := hid (own_emptyZ w)
  have HB := hid hb
  cases s with
  | none =>
    have h1 := hr.hnil rfl
    have h2 := hr.le
    obtain rfl : n = 0 := by omega
    obtain rfl : c = 0 := h1
    have q0 := eqlZ0
    obtain rfl : l = [] := List.eq_nil_of_length_eq_zero HL.out
    clear hr hb HS HO
    go_enter Tryd.func40, Tryd.ntmps40
    go_wp2
    go_ret
    exact ⟨_, rfl, OwZ.nil _⟩
  | some x =>
    have q0 := eqlZ1
    clear hr hb
    go_enter Tryd.func40, Tryd.ntmps40
    go_wp2_with (at_builtin; refine wpList_append_own_src _ rfl (.tmp 5) (.tmp 6) 47 47 rfl w.heap.size 3 i0 (.int .i64 0) 1 8 Tryd.underlying47 hi hz0 hz1 hz2 rfl _ _ _ rfl HO.out _ _ _ rfl HS.out (by simp only [maxLen]; omega) (fitsZ (by omega)) HB.out.size ?_; intro v3 w3 o3 g3; have HO3 := hid o3; have HG3 := hid g3; clear o3 g3)
    go_ret
    have h3 := HO3.out
    rw [Nat.zero_add, List.nil_append] at h3
    refine ⟨_, rfl, by rw [HL.out]; exact h3, ?_⟩
    exact HB.out.trans ((kp_of_grown HG3.out).below HB.out.size (fun k hk => Nat.le_of_eq (List.mem_singleton.1 (show k ∈ [w.heap.size] from hk)).symm))
set_option maxRecDepth 100000 in
theorem swaits_any (hE : We w es) (h : Sh base w p m L) (id : Int) (hi : Bw id) (hn : ∀ e, gt L id = some e → e.n ≤ 1000000) :
    Calls Tryd.prog 30 #[.pointer (some ⟨p, 0, none⟩), .int .i64 id] w fun e w' => ∃ v, e = .returned v ∧ OwZ w w' v (wSer (wab L) id) := by
  cases hg : gt L id with
  | none =>
    have HF := hid (sfind_no hE h id hi hg)
    have HR : Hid (wSer (wab L) id = []) := by rw [Hid, wSer, gt_wab, hg]; rfl
    rw [HR.out]
    clear hg h hE hn
    go_enter Tryd.func30, Tryd.ntmps30
    go_wp2_with fail
    refine HF.out.mono ?_
    rintro e w1 ⟨rfl, q1, rfl⟩
    rw [erw_succ]
    go_wp2
    go_ret
    exact ⟨_, rfl, World.ownsRow_nil _ _ _ _, below_drew1 _ _⟩
  | some e =>
    have HF := hid (sfind_yes h id hi hg)
    have c0 := (h.cs hg).2
    have l0 := (h.wlt hg (mem_wbk.2 (.inl rfl))).2
    have HC := hid (sclone_any e.a e.n e.c e.s.ser w (h.row id e hg).rz (hn e hg))
    have HR : Hid (wSer (wab L) id = e.s.ser) := by rw [Hid, wSer, gt_wab, hg]; rfl
    rw [HR.out]
    clear hg h hE hn
    go_enter Tryd.func30, Tryd.ntmps30
    go_wp2_with fail
    refine HF.out.mono ?_
    rintro e' w1 ⟨rfl, rfl⟩
    go_wp2_with fail
    refine HC.out.mono ?_
    rintro e' w2 ⟨v, rfl, hv⟩
    have HV := hid hv
    clear hv
    go_wp2
    go_ret
    exact ⟨_, rfl, HV.out⟩
end Go.Proofs.YtnlaegleekghmaaDoor
