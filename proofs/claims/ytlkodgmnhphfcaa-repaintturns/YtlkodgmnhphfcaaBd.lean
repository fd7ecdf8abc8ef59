/- The contract of the program's Check. -/
import Derived.Test.YtlkodgmnhphfcaaBc
import Derived.Shelf.SortM.Plain
import Derived.Shelf.SortM.SortNone
import Derived.Shelf.SlicesG.CompactI
import Derived.Shelf.SlicesG.Equal
import Derived.Test.YtlkodgmnhphfcaaProg
import Derived.Lib.OwnBridge
import Derived.Sort.OwnSortedInts
namespace Go.Proofs.Ytlkodgmnhphfcaa
open Go Go.RowKit

theorem chn_no : ∀ {l : List Rc} {j : Nat} {a b : Rc}, l[j]? = some a → l[j + 1]? = some b → flw a b = false → chn l = false
  | [], _, _, _, h, _, _ => by simp at h
  | [_], j, a, b, _, h, _ => by simp at h
  | x :: y :: t, 0, a, b, h, h', hf => by
    simp only [List.getElem?_cons_zero, List.getElem?_cons_succ, Option.some.injEq] at h h'
    subst h h'
    rw [chn, hf]
    rfl
  | x :: y :: t, j + 1, a, b, h, h', hf => by
    rw [List.getElem?_cons_succ] at h h'
    rw [chn, chn_no h h' hf, Bool.and_false]
theorem chn_all : ∀ {l : List Rc}, (∀ j a b, l[j]? = some a → l[j + 1]? = some b → flw a b = true) → chn l = true
  | [], _ => rfl
  | [_], _ => rfl
  | x :: y :: t, h => by
    rw [chn, h 0 x y rfl rfl, chn_all fun j a b h1 h2 => h (j + 1) a b (by rw [List.getElem?_cons_succ]; exact h1) (by rw [List.getElem?_cons_succ]; exact h2)]
    rfl

/-- Whether a list is a region. -/
def rgn (l : List Rc) : Bool := l.all dck && (chn l && prt [] l)
theorem rgn_iff {l : List Rc} : rgn l = true ↔ Reg l := by
  rw [rgn, Bool.and_eq_true, Bool.and_eq_true, List.all_eq_true]
  constructor
  · rintro ⟨h1, h2⟩
    exact (chk_reg fun r hr => dck_iff.1 (h1 r hr)).1 h2
  · intro h
    exact ⟨fun r hr => dck_iff.2 (h.ck r hr), (chk_reg h.ck).2 h⟩
theorem rgn_ck {l : List Rc} {j : Nat} {r : Rc} (hj : l[j]? = some r) (h : dck r = false) : rgn l = false := by
  rw [rgn, Bool.and_eq_false_iff]
  left
  rw [List.all_eq_false]
  exact ⟨r, List.mem_of_getElem? hj, by simp [h]⟩
theorem rgn_chn {l : List Rc} (h : chn l = false) : rgn l = false := by rw [rgn, h]; simp

set_option maxRecDepth 100000 in
set_option maxHeartbeats 2000000 in
theorem regcheck_any (a : Option Addr) (n c : Nat) (l : List Rc) (w : World) (h : RdC w a n c l) :
    Calls Try.prog 55 #[.slice a n c] w fun e w' => e = .returned (.bool (rgn l)) ∧ Below w.heap.size w w' := by
  have H := hid h
  have hn63 := h.small.1
  have HL := hid h.len
  clear h
  go_enter Try.func55, Try.ntmps55
  go_wp2
  go_loopw [7] (fun i wr => ∃ j : Nat, i = .int .i64 j ∧ j ≤ n ∧ (∀ k r, k < j → l[k]? = some r → Ck r) ∧ (∀ k a b, k + 1 < j → l[k]? = some a → l[k + 1]? = some b → flw a b = true) ∧ RowKit.Below w.heap.size w wr) (fun i _ => n - (numOf i).toNat)
  case atStart => exact ⟨0, rfl, by omega, fun k r hk => absurd hk (by omega), fun k r b hk => absurd hk (by omega), Below.refl _ _⟩
  case round =>
    obtain ⟨j, rfl, hj, hK, hF, hb⟩ := hrel
    have HK := hid hK
    have HF := hid hF
    have HB := hid hb
    clear hK hF hb
    by_cases hgo : j < n
    · have e1 : decide ((j : Int) < n) = true := decide_eq_true (by omega)
      obtain ⟨b, off, r, rfl, _, hr, ok, he⟩ := (H.out.on HB.out).el hgo
      obtain ⟨_, c0, c1, c2, c3⟩ := he
      have HR := hid hr
      have CC := hid (fun w => check_any r ok w)
      rw [chk_dck ok] at CC
      have HW := hid (below_new wr (ob r))
      have HX := hid (bx_new wr r)
      clear hr ok
      go_upto_region 4 with fail
      rw [ob] at HW
      generalize hu : wr.alloc (.cells #[.int .i64 r.x, .int .i64 r.y, .int .i64 r.w, .int .i64 r.h] 36) = u at HX HW ⊢
      have HB2 := hid (Below.on HB.out HW.out)
      cases hd : dck r
      · rw [hd] at CC
        have HN := hid (rgn_ck HR.out hd)
        refine wp_region_held_drew (S := fun x => Below u.heap.size u x) (by kernel_rfl) (Below.refl _ _).drew (fun hHeld => ?_)
        have hHeld : Below u.heap.size u u.drew := hHeld
        refine wpAnyH_take (i := 0) (v := ?_) rfl (by kernel_rfl) (by kernel_rfl) (by kernel_rfl) (fun _ _ _ h => h) (Or.inl ⟨by kernel_rfl, ?hy0⟩) (by assumption) ?_
        case hy0 => (intro w hSw; (try dsimp only at hSw); obtain ⟨t00, t01, t02, t03⟩ := (HX.out.on hSw).all; go_simp; try with_reducible rfl)
        try simp only [Act.put, List.getElem_toArray, List.getElem_cons_zero, List.setIfInBounds_toArray, List.set_cons_zero, List.set_cons_succ]
        refine wpAnyH_ready (rs := [1]) (by kernel_rfl) (by simp) ?_
        refine AllReadyH.cons rfl (fun K hK => ?_) AllReadyH.nil
        go_simp
        go_wp2_with fail
        refine (CC.out _).mono ?_
        rintro e u201 ⟨rfl, hb⟩
        replace hHeld := Below.on hHeld hb
        refine hK.out _ _ hHeld (fun _ => ?_)
        clear hK K hb
        refine wpAnyH_take (i := 2) (v := ?_) rfl (by kernel_rfl) (by kernel_rfl) (by kernel_rfl) (fun _ _ _ h => h) (Or.inl ⟨by kernel_rfl, ?hy2⟩) (by assumption) ?_
        case hy2 => (intro w hSw; (try dsimp only at hSw); obtain ⟨t00, t01, t02, t03⟩ := (HX.out.on hSw).all; go_simp; try with_reducible rfl)
        try simp only [Act.put, List.getElem_toArray, List.getElem_cons_zero, List.getElem_cons_succ, List.setIfInBounds_toArray, List.set_cons_zero, List.set_cons_succ]
        refine wpAnyH_take (i := 3) (v := ?_) rfl (by kernel_rfl) (by kernel_rfl) (by kernel_rfl) (fun _ _ _ h => h) (Or.inl ⟨by kernel_rfl, ?hy3⟩) (by assumption) ?_
        case hy3 => (intro w hSw; (try dsimp only at hSw); obtain ⟨t00, t01, t02, t03⟩ := (HX.out.on hSw).all; go_simp; try with_reducible rfl)
        try simp only [Act.put, List.getElem_toArray, List.getElem_cons_zero, List.getElem_cons_succ, List.setIfInBounds_toArray, List.set_cons_zero, List.set_cons_succ]
        refine wpAnyH_take (i := 4) (v := undef) rfl (by kernel_rfl) (by kernel_rfl) (by kernel_rfl) (fun _ _ _ h => h) (Or.inr ⟨by kernel_rfl, rfl⟩) (by assumption) ?_
        try simp only [Act.put, List.getElem_toArray, List.getElem_cons_zero, List.getElem_cons_succ, List.setIfInBounds_toArray, List.set_cons_zero, List.set_cons_succ]
        refine wpAnyH_take (i := 5) (v := undef) rfl (by kernel_rfl) (by kernel_rfl) (by kernel_rfl) (fun _ _ _ h => h) (Or.inr ⟨by kernel_rfl, rfl⟩) (by assumption) ?_
        try simp only [Act.put, List.getElem_toArray, List.getElem_cons_zero, List.getElem_cons_succ, List.setIfInBounds_toArray, List.set_cons_zero, List.set_cons_succ]
        refine wpAnyH_take (i := 6) (v := undef) rfl (by kernel_rfl) (by kernel_rfl) (by kernel_rfl) (fun _ _ _ h => h) (Or.inr ⟨by kernel_rfl, rfl⟩) (by assumption) ?_
        try simp only [Act.put, List.getElem_toArray, List.getElem_cons_zero, List.getElem_cons_succ, List.setIfInBounds_toArray, List.set_cons_zero, List.set_cons_succ]
        refine wpAnyH_take (i := 7) (v := undef) rfl (by kernel_rfl) (by kernel_rfl) (by kernel_rfl) (fun _ _ _ h => h) (Or.inr ⟨by kernel_rfl, rfl⟩) (by assumption) ?_
        try simp only [Act.put, List.getElem_toArray, List.getElem_cons_zero, List.getElem_cons_succ, List.setIfInBounds_toArray, List.set_cons_zero, List.set_cons_succ]
        refine wpAnyH_take (i := 8) (v := undef) rfl (by kernel_rfl) (by kernel_rfl) (by kernel_rfl) (fun _ _ _ h => h) (Or.inr ⟨by kernel_rfl, rfl⟩) (by assumption) ?_
        try simp only [Act.put, List.getElem_toArray, List.getElem_cons_zero, List.getElem_cons_succ, List.setIfInBounds_toArray, List.set_cons_zero, List.set_cons_succ]
        refine wpAnyH_take (i := 9) (v := undef) rfl (by kernel_rfl) (by kernel_rfl) (by kernel_rfl) (fun _ _ _ h => h) (Or.inr ⟨by kernel_rfl, rfl⟩) (by assumption) ?_
        try simp only [Act.put, List.getElem_toArray, List.getElem_cons_zero, List.getElem_cons_succ, List.setIfInBounds_toArray, List.set_cons_zero, List.set_cons_succ]
        refine wpAnyH_take (i := 10) (v := undef) rfl (by kernel_rfl) (by kernel_rfl) (by kernel_rfl) (fun _ _ _ h => h) (Or.inr ⟨by kernel_rfl, rfl⟩) (by assumption) ?_
        try simp only [Act.put, List.getElem_toArray, List.getElem_cons_zero, List.getElem_cons_succ, List.setIfInBounds_toArray, List.set_cons_zero, List.set_cons_succ]
        refine wpAnyH_take (i := 11) (v := undef) rfl (by kernel_rfl) (by kernel_rfl) (by kernel_rfl) (fun _ _ _ h => h) (Or.inr ⟨by kernel_rfl, rfl⟩) (by assumption) ?_
        try simp only [Act.put, List.getElem_toArray, List.getElem_cons_zero, List.getElem_cons_succ, List.setIfInBounds_toArray, List.set_cons_zero, List.set_cons_succ]
        refine wpAnyH_take (i := 12) (v := undef) rfl (by kernel_rfl) (by kernel_rfl) (by kernel_rfl) (fun _ _ _ h => h) (Or.inr ⟨by kernel_rfl, rfl⟩) (by assumption) ?_
        try simp only [Act.put, List.getElem_toArray, List.getElem_cons_zero, List.getElem_cons_succ, List.setIfInBounds_toArray, List.set_cons_zero, List.set_cons_succ]
        refine wpAnyH_take (i := 13) (v := undef) rfl (by kernel_rfl) (by kernel_rfl) (by kernel_rfl) (fun _ _ _ h => h) (Or.inr ⟨by kernel_rfl, rfl⟩) (by assumption) ?_
        try simp only [Act.put, List.getElem_toArray, List.getElem_cons_zero, List.getElem_cons_succ, List.setIfInBounds_toArray, List.set_cons_zero, List.set_cons_succ]
        refine wpAnyH_take (i := 14) (v := undef) rfl (by kernel_rfl) (by kernel_rfl) (by kernel_rfl) (fun _ _ _ h => h) (Or.inr ⟨by kernel_rfl, rfl⟩) (by assumption) ?_
        try simp only [Act.put, List.getElem_toArray, List.getElem_cons_zero, List.getElem_cons_succ, List.setIfInBounds_toArray, List.set_cons_zero, List.set_cons_succ]
        refine wpAnyH_take (i := 15) (v := undef) rfl (by kernel_rfl) (by kernel_rfl) (by kernel_rfl) (fun _ _ _ h => h) (Or.inr ⟨by kernel_rfl, rfl⟩) (by assumption) ?_
        try simp only [Act.put, List.getElem_toArray, List.getElem_cons_zero, List.getElem_cons_succ, List.setIfInBounds_toArray, List.set_cons_zero, List.set_cons_succ]
        refine wpAnyH_take (i := 16) (v := ?_) rfl (by kernel_rfl) (by kernel_rfl) (by kernel_rfl) (fun _ _ _ h => h) (Or.inl ⟨by kernel_rfl, ?hy16⟩) (by assumption) ?_
        case hy16 => (intro w hSw; (try dsimp only at hSw); obtain ⟨t00, t01, t02, t03⟩ := (HX.out.on hSw).all; go_simp; try with_reducible rfl)
        try simp only [Act.put, List.getElem_toArray, List.getElem_cons_zero, List.getElem_cons_succ, List.setIfInBounds_toArray, List.set_cons_zero, List.set_cons_succ]
        refine wpAnyH_done (by kernel_rfl) ?_ _
        go_wp2
        go_ret
        rw [HN.out]
        exact ⟨rfl, Below.on HB2.out hHeld⟩
      · rw [hd] at CC
        have HK2 : Hid (∀ k x, k < j + 1 → l[k]? = some x → Ck x) := fun k x hk hx => by
          rcases Nat.lt_or_ge k j with h | h
          · exact HK.out k x h hx
          · obtain rfl : k = j := by omega
            rw [HR.out] at hx
            cases hx
            exact dck_iff.1 hd
        by_cases h0 : j = 0
        · subst h0
          refine wp_region_held_drew (S := fun x => Below u.heap.size u x) (by kernel_rfl) (Below.refl _ _).drew (fun hHeld => ?_)
          have hHeld : Below u.heap.size u u.drew := hHeld
          refine wpAnyH_take (i := 0) (v := ?_) rfl (by kernel_rfl) (by kernel_rfl) (by kernel_rfl) (fun _ _ _ h => h) (Or.inl ⟨by kernel_rfl, ?hy0⟩) (by assumption) ?_
          case hy0 => (intro w hSw; (try dsimp only at hSw); obtain ⟨t00, t01, t02, t03⟩ := (HX.out.on hSw).all; go_simp; try with_reducible rfl)
          try simp only [Act.put, List.getElem_toArray, List.getElem_cons_zero, List.setIfInBounds_toArray, List.set_cons_zero, List.set_cons_succ]
          refine wpAnyH_ready (rs := [1]) (by kernel_rfl) (by simp) ?_
          refine AllReadyH.cons rfl (fun K hK => ?_) AllReadyH.nil
          go_simp
          go_wp2_with fail
          refine (CC.out _).mono ?_
          rintro e u201 ⟨rfl, hb⟩
          replace hHeld := Below.on hHeld hb
          refine hK.out _ _ hHeld (fun _ => ?_)
          clear hK K hb
          refine wpAnyH_take (i := 2) (v := ?_) rfl (by kernel_rfl) (by kernel_rfl) (by kernel_rfl) (fun _ _ _ h => h) (Or.inl ⟨by kernel_rfl, ?hy2⟩) (by assumption) ?_
          case hy2 => (intro w hSw; (try dsimp only at hSw); obtain ⟨t00, t01, t02, t03⟩ := (HX.out.on hSw).all; go_simp; try with_reducible rfl)
          try simp only [Act.put, List.getElem_toArray, List.getElem_cons_zero, List.getElem_cons_succ, List.setIfInBounds_toArray, List.set_cons_zero, List.set_cons_succ]
          refine wpAnyH_take (i := 3) (v := ?_) rfl (by kernel_rfl) (by kernel_rfl) (by kernel_rfl) (fun _ _ _ h => h) (Or.inl ⟨by kernel_rfl, ?hy3⟩) (by assumption) ?_
          case hy3 => (intro w hSw; (try dsimp only at hSw); obtain ⟨t00, t01, t02, t03⟩ := (HX.out.on hSw).all; go_simp; try with_reducible rfl)
          try simp only [Act.put, List.getElem_toArray, List.getElem_cons_zero, List.getElem_cons_succ, List.setIfInBounds_toArray, List.set_cons_zero, List.set_cons_succ]
          refine wpAnyH_take (i := 4) (v := ?_) rfl (by kernel_rfl) (by kernel_rfl) (by kernel_rfl) (fun _ _ _ h => h) (Or.inl ⟨by kernel_rfl, ?hy4⟩) (by assumption) ?_
          case hy4 => (intro w hSw; (try dsimp only at hSw); obtain ⟨t00, t01, t02, t03⟩ := (HX.out.on hSw).all; go_simp; try with_reducible rfl)
          try simp only [Act.put, List.getElem_toArray, List.getElem_cons_zero, List.getElem_cons_succ, List.setIfInBounds_toArray, List.set_cons_zero, List.set_cons_succ]
          refine wpAnyH_take (i := 5) (v := ?_) rfl (by kernel_rfl) (by kernel_rfl) (by kernel_rfl) (fun _ _ _ h => h) (Or.inl ⟨by kernel_rfl, ?hy5⟩) (by assumption) ?_
          case hy5 => (intro w hSw; (try dsimp only at hSw); obtain ⟨t00, t01, t02, t03⟩ := (HX.out.on hSw).all; go_simp; try with_reducible rfl)
          try simp only [Act.put, List.getElem_toArray, List.getElem_cons_zero, List.getElem_cons_succ, List.setIfInBounds_toArray, List.set_cons_zero, List.set_cons_succ]
          refine wpAnyH_take (i := 6) (v := ?_) rfl (by kernel_rfl) (by kernel_rfl) (by kernel_rfl) (fun _ _ _ h => h) (Or.inl ⟨by kernel_rfl, ?hy6⟩) (by assumption) ?_
          case hy6 => (intro w hSw; (try dsimp only at hSw); obtain ⟨t00, t01, t02, t03⟩ := (HX.out.on hSw).all; go_simp; try with_reducible rfl)
          try simp only [Act.put, List.getElem_toArray, List.getElem_cons_zero, List.getElem_cons_succ, List.setIfInBounds_toArray, List.set_cons_zero, List.set_cons_succ]
          refine wpAnyH_take (i := 7) (v := undef) rfl (by kernel_rfl) (by kernel_rfl) (by kernel_rfl) (fun _ _ _ h => h) (Or.inr ⟨by kernel_rfl, rfl⟩) (by assumption) ?_
          try simp only [Act.put, List.getElem_toArray, List.getElem_cons_zero, List.getElem_cons_succ, List.setIfInBounds_toArray, List.set_cons_zero, List.set_cons_succ]
          refine wpAnyH_take (i := 8) (v := undef) rfl (by kernel_rfl) (by kernel_rfl) (by kernel_rfl) (fun _ _ _ h => h) (Or.inr ⟨by kernel_rfl, rfl⟩) (by assumption) ?_
          try simp only [Act.put, List.getElem_toArray, List.getElem_cons_zero, List.getElem_cons_succ, List.setIfInBounds_toArray, List.set_cons_zero, List.set_cons_succ]
          refine wpAnyH_take (i := 9) (v := undef) rfl (by kernel_rfl) (by kernel_rfl) (by kernel_rfl) (fun _ _ _ h => h) (Or.inr ⟨by kernel_rfl, rfl⟩) (by assumption) ?_
          try simp only [Act.put, List.getElem_toArray, List.getElem_cons_zero, List.getElem_cons_succ, List.setIfInBounds_toArray, List.set_cons_zero, List.set_cons_succ]
          refine wpAnyH_take (i := 10) (v := undef) rfl (by kernel_rfl) (by kernel_rfl) (by kernel_rfl) (fun _ _ _ h => h) (Or.inr ⟨by kernel_rfl, rfl⟩) (by assumption) ?_
          try simp only [Act.put, List.getElem_toArray, List.getElem_cons_zero, List.getElem_cons_succ, List.setIfInBounds_toArray, List.set_cons_zero, List.set_cons_succ]
          refine wpAnyH_take (i := 11) (v := undef) rfl (by kernel_rfl) (by kernel_rfl) (by kernel_rfl) (fun _ _ _ h => h) (Or.inr ⟨by kernel_rfl, rfl⟩) (by assumption) ?_
          try simp only [Act.put, List.getElem_toArray, List.getElem_cons_zero, List.getElem_cons_succ, List.setIfInBounds_toArray, List.set_cons_zero, List.set_cons_succ]
          refine wpAnyH_take (i := 12) (v := undef) rfl (by kernel_rfl) (by kernel_rfl) (by kernel_rfl) (fun _ _ _ h => h) (Or.inr ⟨by kernel_rfl, rfl⟩) (by assumption) ?_
          try simp only [Act.put, List.getElem_toArray, List.getElem_cons_zero, List.getElem_cons_succ, List.setIfInBounds_toArray, List.set_cons_zero, List.set_cons_succ]
          refine wpAnyH_take (i := 13) (v := undef) rfl (by kernel_rfl) (by kernel_rfl) (by kernel_rfl) (fun _ _ _ h => h) (Or.inr ⟨by kernel_rfl, rfl⟩) (by assumption) ?_
          try simp only [Act.put, List.getElem_toArray, List.getElem_cons_zero, List.getElem_cons_succ, List.setIfInBounds_toArray, List.set_cons_zero, List.set_cons_succ]
          refine wpAnyH_take (i := 14) (v := undef) rfl (by kernel_rfl) (by kernel_rfl) (by kernel_rfl) (fun _ _ _ h => h) (Or.inr ⟨by kernel_rfl, rfl⟩) (by assumption) ?_
          try simp only [Act.put, List.getElem_toArray, List.getElem_cons_zero, List.getElem_cons_succ, List.setIfInBounds_toArray, List.set_cons_zero, List.set_cons_succ]
          refine wpAnyH_take (i := 15) (v := ?_) rfl (by kernel_rfl) (by kernel_rfl) (by kernel_rfl) (fun _ _ _ h => h) (Or.inl ⟨by kernel_rfl, ?hy15⟩) (by assumption) ?_
          case hy15 => (intro w hSw; (try dsimp only at hSw); obtain ⟨t00, t01, t02, t03⟩ := (HX.out.on hSw).all; go_simp; try with_reducible rfl)
          try simp only [Act.put, List.getElem_toArray, List.getElem_cons_zero, List.getElem_cons_succ, List.setIfInBounds_toArray, List.set_cons_zero, List.set_cons_succ]
          refine wpAnyH_take (i := 16) (v := ?_) rfl (by kernel_rfl) (by kernel_rfl) (by kernel_rfl) (fun _ _ _ h => h) (Or.inl ⟨by kernel_rfl, ?hy16⟩) (by assumption) ?_
          case hy16 => (intro w hSw; (try dsimp only at hSw); obtain ⟨t00, t01, t02, t03⟩ := (HX.out.on hSw).all; go_simp; try with_reducible rfl)
          try simp only [Act.put, List.getElem_toArray, List.getElem_cons_zero, List.getElem_cons_succ, List.setIfInBounds_toArray, List.set_cons_zero, List.set_cons_succ]
          refine wpAnyH_done (by kernel_rfl) ?_ _
          go_wp2
          go_roundw
          case rel => exact ⟨1, by go_num, by omega, HK2.out, fun k x y hk => absurd hk (by omega), Below.on HB2.out hHeld⟩
          case measure => simp [numOf]; omega
        · obtain ⟨m, rfl⟩ : ∃ m, j = m + 1 := ⟨j - 1, by omega⟩
          obtain ⟨b', off', p, hbo, _, hp, _, hep⟩ := (H.out.on HB2.out).el (show m < n by omega)
          simp only [Option.some.injEq, Addr.mk.injEq, and_true] at hbo
          obtain ⟨rfl, rfl⟩ := hbo
          have HEP := hid hep
          have kp := HK.out m p (by omega) hp
          have CF := hid (fun w => follows_any p r (by obtain ⟨k1, k2, k3, k4, k5, k6⟩ := kp; omega) (by obtain ⟨k1, k2, k3, k4, k5, k6⟩ := kp; omega) w)
          have HP := hid hp
          have hm1 : IntKind.i64.wrap (m : Int) = (m : Int) := by rw [IntKind.wrap_i64]; omega
          have hm3 : ((m : Int)).toNat = m := by omega
          have hm0 : (0 : Int) ≤ m := by omega
          have hm2 : (m : Int) < n := by omega
          clear hp hep kp
          cases hf : flw p r
          · rw [hf] at CF
            have HN := hid (rgn_chn (chn_no HP.out HR.out hf))
            refine wp_region_held_drew (S := fun x => Below u.heap.size u x) (by kernel_rfl) (Below.refl _ _).drew (fun hHeld => ?_)
            have hHeld : Below u.heap.size u u.drew := hHeld
            refine wpAnyH_take (i := 0) (v := ?_) rfl (by kernel_rfl) (by kernel_rfl) (by kernel_rfl) (fun _ _ _ h => h) (Or.inl ⟨by kernel_rfl, ?hy0⟩) (by assumption) ?_
            case hy0 => (intro w hSw; (try dsimp only at hSw); obtain ⟨t00, t01, t02, t03⟩ := (HX.out.on hSw).all; obtain ⟨t10, t11, t12, t13⟩ := (HEP.out.on hSw).all; go_simp; try with_reducible rfl)
            try simp only [Act.put, List.getElem_toArray, List.getElem_cons_zero, List.setIfInBounds_toArray, List.set_cons_zero, List.set_cons_succ]
            refine wpAnyH_ready (rs := [1]) (by kernel_rfl) (by simp) ?_
            refine AllReadyH.cons rfl (fun K hK => ?_) AllReadyH.nil
            go_simp
            go_wp2_with fail
            refine (CC.out _).mono ?_
            rintro e u201 ⟨rfl, hb⟩
            replace hHeld := Below.on hHeld hb
            refine hK.out _ _ hHeld (fun _ => ?_)
            clear hK K hb
            refine wpAnyH_take (i := 2) (v := ?_) rfl (by kernel_rfl) (by kernel_rfl) (by kernel_rfl) (fun _ _ _ h => h) (Or.inl ⟨by kernel_rfl, ?hy2⟩) (by assumption) ?_
            case hy2 => (intro w hSw; (try dsimp only at hSw); obtain ⟨t00, t01, t02, t03⟩ := (HX.out.on hSw).all; obtain ⟨t10, t11, t12, t13⟩ := (HEP.out.on hSw).all; go_simp; try with_reducible rfl)
            try simp only [Act.put, List.getElem_toArray, List.getElem_cons_zero, List.getElem_cons_succ, List.setIfInBounds_toArray, List.set_cons_zero, List.set_cons_succ]
            refine wpAnyH_take (i := 3) (v := ?_) rfl (by kernel_rfl) (by kernel_rfl) (by kernel_rfl) (fun _ _ _ h => h) (Or.inl ⟨by kernel_rfl, ?hy3⟩) (by assumption) ?_
            case hy3 => (intro w hSw; (try dsimp only at hSw); obtain ⟨t00, t01, t02, t03⟩ := (HX.out.on hSw).all; obtain ⟨t10, t11, t12, t13⟩ := (HEP.out.on hSw).all; go_simp; try with_reducible rfl)
            try simp only [Act.put, List.getElem_toArray, List.getElem_cons_zero, List.getElem_cons_succ, List.setIfInBounds_toArray, List.set_cons_zero, List.set_cons_succ]
            refine wpAnyH_take (i := 4) (v := ?_) rfl (by kernel_rfl) (by kernel_rfl) (by kernel_rfl) (fun _ _ _ h => h) (Or.inl ⟨by kernel_rfl, ?hy4⟩) (by assumption) ?_
            case hy4 => (intro w hSw; (try dsimp only at hSw); obtain ⟨t00, t01, t02, t03⟩ := (HX.out.on hSw).all; obtain ⟨t10, t11, t12, t13⟩ := (HEP.out.on hSw).all; go_simp; try with_reducible rfl)
            try simp only [Act.put, List.getElem_toArray, List.getElem_cons_zero, List.getElem_cons_succ, List.setIfInBounds_toArray, List.set_cons_zero, List.set_cons_succ]
            refine wpAnyH_take (i := 5) (v := ?_) rfl (by kernel_rfl) (by kernel_rfl) (by kernel_rfl) (fun _ _ _ h => h) (Or.inl ⟨by kernel_rfl, ?hy5⟩) (by assumption) ?_
            case hy5 => (intro w hSw; (try dsimp only at hSw); obtain ⟨t00, t01, t02, t03⟩ := (HX.out.on hSw).all; obtain ⟨t10, t11, t12, t13⟩ := (HEP.out.on hSw).all; go_simp; try with_reducible rfl)
            try simp only [Act.put, List.getElem_toArray, List.getElem_cons_zero, List.getElem_cons_succ, List.setIfInBounds_toArray, List.set_cons_zero, List.set_cons_succ]
            refine wpAnyH_take (i := 6) (v := ?_) rfl (by kernel_rfl) (by kernel_rfl) (by kernel_rfl) (fun _ _ _ h => h) (Or.inl ⟨by kernel_rfl, ?hy6⟩) (by assumption) ?_
            case hy6 => (intro w hSw; (try dsimp only at hSw); obtain ⟨t00, t01, t02, t03⟩ := (HX.out.on hSw).all; obtain ⟨t10, t11, t12, t13⟩ := (HEP.out.on hSw).all; go_simp; try with_reducible rfl)
            try simp only [Act.put, List.getElem_toArray, List.getElem_cons_zero, List.getElem_cons_succ, List.setIfInBounds_toArray, List.set_cons_zero, List.set_cons_succ]
            refine wpAnyH_take (i := 7) (v := ?_) rfl (by kernel_rfl) (by kernel_rfl) (by kernel_rfl) (fun _ _ _ h => h) (Or.inl ⟨by kernel_rfl, ?hy7⟩) (by assumption) ?_
            case hy7 => (intro w hSw; (try dsimp only at hSw); obtain ⟨t00, t01, t02, t03⟩ := (HX.out.on hSw).all; obtain ⟨t10, t11, t12, t13⟩ := (HEP.out.on hSw).all; go_simp; try with_reducible rfl)
            try simp only [Act.put, List.getElem_toArray, List.getElem_cons_zero, List.getElem_cons_succ, List.setIfInBounds_toArray, List.set_cons_zero, List.set_cons_succ]
            refine wpAnyH_take (i := 8) (v := ?_) rfl (by kernel_rfl) (by kernel_rfl) (by kernel_rfl) (fun _ _ _ h => h) (Or.inl ⟨by kernel_rfl, ?hy8⟩) (by assumption) ?_
            case hy8 => (intro w hSw; (try dsimp only at hSw); obtain ⟨t00, t01, t02, t03⟩ := (HX.out.on hSw).all; obtain ⟨t10, t11, t12, t13⟩ := (HEP.out.on hSw).all; go_simp; try with_reducible rfl)
            try simp only [Act.put, List.getElem_toArray, List.getElem_cons_zero, List.getElem_cons_succ, List.setIfInBounds_toArray, List.set_cons_zero, List.set_cons_succ]
            refine wpAnyH_take (i := 9) (v := ?_) rfl (by kernel_rfl) (by kernel_rfl) (by kernel_rfl) (fun _ _ _ h => h) (Or.inl ⟨by kernel_rfl, ?hy9⟩) (by assumption) ?_
            case hy9 => (intro w hSw; (try dsimp only at hSw); obtain ⟨t00, t01, t02, t03⟩ := (HX.out.on hSw).all; obtain ⟨t10, t11, t12, t13⟩ := (HEP.out.on hSw).all; go_simp; try with_reducible rfl)
            try simp only [Act.put, List.getElem_toArray, List.getElem_cons_zero, List.getElem_cons_succ, List.setIfInBounds_toArray, List.set_cons_zero, List.set_cons_succ]
            refine wpAnyH_take (i := 10) (v := ?_) rfl (by kernel_rfl) (by kernel_rfl) (by kernel_rfl) (fun _ _ _ h => h) (Or.inl ⟨by kernel_rfl, ?hy10⟩) (by assumption) ?_
            case hy10 => (intro w hSw; (try dsimp only at hSw); obtain ⟨t00, t01, t02, t03⟩ := (HX.out.on hSw).all; obtain ⟨t10, t11, t12, t13⟩ := (HEP.out.on hSw).all; go_simp; try with_reducible rfl)
            try simp only [Act.put, List.getElem_toArray, List.getElem_cons_zero, List.getElem_cons_succ, List.setIfInBounds_toArray, List.set_cons_zero, List.set_cons_succ]
            refine wpAnyH_take (i := 11) (v := ?_) rfl (by kernel_rfl) (by kernel_rfl) (by kernel_rfl) (fun _ _ _ h => h) (Or.inl ⟨by kernel_rfl, ?hy11⟩) (by assumption) ?_
            case hy11 => (intro w hSw; (try dsimp only at hSw); obtain ⟨t00, t01, t02, t03⟩ := (HX.out.on hSw).all; obtain ⟨t10, t11, t12, t13⟩ := (HEP.out.on hSw).all; go_simp; try with_reducible rfl)
            try simp only [Act.put, List.getElem_toArray, List.getElem_cons_zero, List.getElem_cons_succ, List.setIfInBounds_toArray, List.set_cons_zero, List.set_cons_succ]
            refine wpAnyH_take (i := 12) (v := ?_) rfl (by kernel_rfl) (by kernel_rfl) (by kernel_rfl) (fun _ _ _ h => h) (Or.inl ⟨by kernel_rfl, ?hy12⟩) (by assumption) ?_
            case hy12 => (intro w hSw; (try dsimp only at hSw); obtain ⟨t00, t01, t02, t03⟩ := (HX.out.on hSw).all; obtain ⟨t10, t11, t12, t13⟩ := (HEP.out.on hSw).all; go_simp; try with_reducible rfl)
            try simp only [Act.put, List.getElem_toArray, List.getElem_cons_zero, List.getElem_cons_succ, List.setIfInBounds_toArray, List.set_cons_zero, List.set_cons_succ]
            refine wpAnyH_ready (rs := [13]) (by kernel_rfl) (by simp) ?_
            refine AllReadyH.cons rfl (fun K hK => ?_) AllReadyH.nil
            go_simp
            go_wp2_with fail
            refine (CF.out _).mono ?_
            rintro e u213 ⟨rfl, hb⟩
            replace hHeld := Below.on hHeld hb
            refine hK.out _ _ hHeld (fun _ => ?_)
            clear hK K hb
            refine wpAnyH_take (i := 14) (v := ?_) rfl (by kernel_rfl) (by kernel_rfl) (by kernel_rfl) (fun _ _ _ h => h) (Or.inl ⟨by kernel_rfl, ?hy14⟩) (by assumption) ?_
            case hy14 => (intro w hSw; (try dsimp only at hSw); obtain ⟨t00, t01, t02, t03⟩ := (HX.out.on hSw).all; obtain ⟨t10, t11, t12, t13⟩ := (HEP.out.on hSw).all; go_simp; try with_reducible rfl)
            try simp only [Act.put, List.getElem_toArray, List.getElem_cons_zero, List.getElem_cons_succ, List.setIfInBounds_toArray, List.set_cons_zero, List.set_cons_succ]
            refine wpAnyH_take (i := 15) (v := ?_) rfl (by kernel_rfl) (by kernel_rfl) (by kernel_rfl) (fun _ _ _ h => h) (Or.inl ⟨by kernel_rfl, ?hy15⟩) (by assumption) ?_
            case hy15 => (intro w hSw; (try dsimp only at hSw); obtain ⟨t00, t01, t02, t03⟩ := (HX.out.on hSw).all; obtain ⟨t10, t11, t12, t13⟩ := (HEP.out.on hSw).all; go_simp; try with_reducible rfl)
            try simp only [Act.put, List.getElem_toArray, List.getElem_cons_zero, List.getElem_cons_succ, List.setIfInBounds_toArray, List.set_cons_zero, List.set_cons_succ]
            refine wpAnyH_take (i := 16) (v := ?_) rfl (by kernel_rfl) (by kernel_rfl) (by kernel_rfl) (fun _ _ _ h => h) (Or.inl ⟨by kernel_rfl, ?hy16⟩) (by assumption) ?_
            case hy16 => (intro w hSw; (try dsimp only at hSw); obtain ⟨t00, t01, t02, t03⟩ := (HX.out.on hSw).all; obtain ⟨t10, t11, t12, t13⟩ := (HEP.out.on hSw).all; go_simp; try with_reducible rfl)
            try simp only [Act.put, List.getElem_toArray, List.getElem_cons_zero, List.getElem_cons_succ, List.setIfInBounds_toArray, List.set_cons_zero, List.set_cons_succ]
            refine wpAnyH_done (by kernel_rfl) ?_ _
            go_wp2
            go_ret
            rw [HN.out]
            exact ⟨rfl, Below.on HB2.out hHeld⟩
          · rw [hf] at CF
            refine wp_region_held_drew (S := fun x => Below u.heap.size u x) (by kernel_rfl) (Below.refl _ _).drew (fun hHeld => ?_)
            have hHeld : Below u.heap.size u u.drew := hHeld
            refine wpAnyH_take (i := 0) (v := ?_) rfl (by kernel_rfl) (by kernel_rfl) (by kernel_rfl) (fun _ _ _ h => h) (Or.inl ⟨by kernel_rfl, ?hy0⟩) (by assumption) ?_
            case hy0 => (intro w hSw; (try dsimp only at hSw); obtain ⟨t00, t01, t02, t03⟩ := (HX.out.on hSw).all; obtain ⟨t10, t11, t12, t13⟩ := (HEP.out.on hSw).all; go_simp; try with_reducible rfl)
            try simp only [Act.put, List.getElem_toArray, List.getElem_cons_zero, List.setIfInBounds_toArray, List.set_cons_zero, List.set_cons_succ]
            refine wpAnyH_ready (rs := [1]) (by kernel_rfl) (by simp) ?_
            refine AllReadyH.cons rfl (fun K hK => ?_) AllReadyH.nil
            go_simp
            go_wp2_with fail
            refine (CC.out _).mono ?_
            rintro e u201 ⟨rfl, hb⟩
            replace hHeld := Below.on hHeld hb
            refine hK.out _ _ hHeld (fun _ => ?_)
            clear hK K hb
            refine wpAnyH_take (i := 2) (v := ?_) rfl (by kernel_rfl) (by kernel_rfl) (by kernel_rfl) (fun _ _ _ h => h) (Or.inl ⟨by kernel_rfl, ?hy2⟩) (by assumption) ?_
            case hy2 => (intro w hSw; (try dsimp only at hSw); obtain ⟨t00, t01, t02, t03⟩ := (HX.out.on hSw).all; obtain ⟨t10, t11, t12, t13⟩ := (HEP.out.on hSw).all; go_simp; try with_reducible rfl)
            try simp only [Act.put, List.getElem_toArray, List.getElem_cons_zero, List.getElem_cons_succ, List.setIfInBounds_toArray, List.set_cons_zero, List.set_cons_succ]
            refine wpAnyH_take (i := 3) (v := ?_) rfl (by kernel_rfl) (by kernel_rfl) (by kernel_rfl) (fun _ _ _ h => h) (Or.inl ⟨by kernel_rfl, ?hy3⟩) (by assumption) ?_
            case hy3 => (intro w hSw; (try dsimp only at hSw); obtain ⟨t00, t01, t02, t03⟩ := (HX.out.on hSw).all; obtain ⟨t10, t11, t12, t13⟩ := (HEP.out.on hSw).all; go_simp; try with_reducible rfl)
            try simp only [Act.put, List.getElem_toArray, List.getElem_cons_zero, List.getElem_cons_succ, List.setIfInBounds_toArray, List.set_cons_zero, List.set_cons_succ]
            refine wpAnyH_take (i := 4) (v := ?_) rfl (by kernel_rfl) (by kernel_rfl) (by kernel_rfl) (fun _ _ _ h => h) (Or.inl ⟨by kernel_rfl, ?hy4⟩) (by assumption) ?_
            case hy4 => (intro w hSw; (try dsimp only at hSw); obtain ⟨t00, t01, t02, t03⟩ := (HX.out.on hSw).all; obtain ⟨t10, t11, t12, t13⟩ := (HEP.out.on hSw).all; go_simp; try with_reducible rfl)
            try simp only [Act.put, List.getElem_toArray, List.getElem_cons_zero, List.getElem_cons_succ, List.setIfInBounds_toArray, List.set_cons_zero, List.set_cons_succ]
            refine wpAnyH_take (i := 5) (v := ?_) rfl (by kernel_rfl) (by kernel_rfl) (by kernel_rfl) (fun _ _ _ h => h) (Or.inl ⟨by kernel_rfl, ?hy5⟩) (by assumption) ?_
            case hy5 => (intro w hSw; (try dsimp only at hSw); obtain ⟨t00, t01, t02, t03⟩ := (HX.out.on hSw).all; obtain ⟨t10, t11, t12, t13⟩ := (HEP.out.on hSw).all; go_simp; try with_reducible rfl)
            try simp only [Act.put, List.getElem_toArray, List.getElem_cons_zero, List.getElem_cons_succ, List.setIfInBounds_toArray, List.set_cons_zero, List.set_cons_succ]
            refine wpAnyH_take (i := 6) (v := ?_) rfl (by kernel_rfl) (by kernel_rfl) (by kernel_rfl) (fun _ _ _ h => h) (Or.inl ⟨by kernel_rfl, ?hy6⟩) (by assumption) ?_
            case hy6 => (intro w hSw; (try dsimp only at hSw); obtain ⟨t00, t01, t02, t03⟩ := (HX.out.on hSw).all; obtain ⟨t10, t11, t12, t13⟩ := (HEP.out.on hSw).all; go_simp; try with_reducible rfl)
            try simp only [Act.put, List.getElem_toArray, List.getElem_cons_zero, List.getElem_cons_succ, List.setIfInBounds_toArray, List.set_cons_zero, List.set_cons_succ]
            refine wpAnyH_take (i := 7) (v := ?_) rfl (by kernel_rfl) (by kernel_rfl) (by kernel_rfl) (fun _ _ _ h => h) (Or.inl ⟨by kernel_rfl, ?hy7⟩) (by assumption) ?_
            case hy7 => (intro w hSw; (try dsimp only at hSw); obtain ⟨t00, t01, t02, t03⟩ := (HX.out.on hSw).all; obtain ⟨t10, t11, t12, t13⟩ := (HEP.out.on hSw).all; go_simp; try with_reducible rfl)
            try simp only [Act.put, List.getElem_toArray, List.getElem_cons_zero, List.getElem_cons_succ, List.setIfInBounds_toArray, List.set_cons_zero, List.set_cons_succ]
            refine wpAnyH_take (i := 8) (v := ?_) rfl (by kernel_rfl) (by kernel_rfl) (by kernel_rfl) (fun _ _ _ h => h) (Or.inl ⟨by kernel_rfl, ?hy8⟩) (by assumption) ?_
            case hy8 => (intro w hSw; (try dsimp only at hSw); obtain ⟨t00, t01, t02, t03⟩ := (HX.out.on hSw).all; obtain ⟨t10, t11, t12, t13⟩ := (HEP.out.on hSw).all; go_simp; try with_reducible rfl)
            try simp only [Act.put, List.getElem_toArray, List.getElem_cons_zero, List.getElem_cons_succ, List.setIfInBounds_toArray, List.set_cons_zero, List.set_cons_succ]
            refine wpAnyH_take (i := 9) (v := ?_) rfl (by kernel_rfl) (by kernel_rfl) (by kernel_rfl) (fun _ _ _ h => h) (Or.inl ⟨by kernel_rfl, ?hy9⟩) (by assumption) ?_
            case hy9 => (intro w hSw; (try dsimp only at hSw); obtain ⟨t00, t01, t02, t03⟩ := (HX.out.on hSw).all; obtain ⟨t10, t11, t12, t13⟩ := (HEP.out.on hSw).all; go_simp; try with_reducible rfl)
            try simp only [Act.put, List.getElem_toArray, List.getElem_cons_zero, List.getElem_cons_succ, List.setIfInBounds_toArray, List.set_cons_zero, List.set_cons_succ]
            refine wpAnyH_take (i := 10) (v := ?_) rfl (by kernel_rfl) (by kernel_rfl) (by kernel_rfl) (fun _ _ _ h => h) (Or.inl ⟨by kernel_rfl, ?hy10⟩) (by assumption) ?_
            case hy10 => (intro w hSw; (try dsimp only at hSw); obtain ⟨t00, t01, t02, t03⟩ := (HX.out.on hSw).all; obtain ⟨t10, t11, t12, t13⟩ := (HEP.out.on hSw).all; go_simp; try with_reducible rfl)
            try simp only [Act.put, List.getElem_toArray, List.getElem_cons_zero, List.getElem_cons_succ, List.setIfInBounds_toArray, List.set_cons_zero, List.set_cons_succ]
            refine wpAnyH_take (i := 11) (v := ?_) rfl (by kernel_rfl) (by kernel_rfl) (by kernel_rfl) (fun _ _ _ h => h) (Or.inl ⟨by kernel_rfl, ?hy11⟩) (by assumption) ?_
            case hy11 => (intro w hSw; (try dsimp only at hSw); obtain ⟨t00, t01, t02, t03⟩ := (HX.out.on hSw).all; obtain ⟨t10, t11, t12, t13⟩ := (HEP.out.on hSw).all; go_simp; try with_reducible rfl)
            try simp only [Act.put, List.getElem_toArray, List.getElem_cons_zero, List.getElem_cons_succ, List.setIfInBounds_toArray, List.set_cons_zero, List.set_cons_succ]
            refine wpAnyH_take (i := 12) (v := ?_) rfl (by kernel_rfl) (by kernel_rfl) (by kernel_rfl) (fun _ _ _ h => h) (Or.inl ⟨by kernel_rfl, ?hy12⟩) (by assumption) ?_
            case hy12 => (intro w hSw; (try dsimp only at hSw); obtain ⟨t00, t01, t02, t03⟩ := (HX.out.on hSw).all; obtain ⟨t10, t11, t12, t13⟩ := (HEP.out.on hSw).all; go_simp; try with_reducible rfl)
            try simp only [Act.put, List.getElem_toArray, List.getElem_cons_zero, List.getElem_cons_succ, List.setIfInBounds_toArray, List.set_cons_zero, List.set_cons_succ]
            refine wpAnyH_ready (rs := [13]) (by kernel_rfl) (by simp) ?_
            refine AllReadyH.cons rfl (fun K hK => ?_) AllReadyH.nil
            go_simp
            go_wp2_with fail
            refine (CF.out _).mono ?_
            rintro e u213 ⟨rfl, hb⟩
            replace hHeld := Below.on hHeld hb
            refine hK.out _ _ hHeld (fun _ => ?_)
            clear hK K hb
            refine wpAnyH_take (i := 14) (v := ?_) rfl (by kernel_rfl) (by kernel_rfl) (by kernel_rfl) (fun _ _ _ h => h) (Or.inl ⟨by kernel_rfl, ?hy14⟩) (by assumption) ?_
            case hy14 => (intro w hSw; (try dsimp only at hSw); obtain ⟨t00, t01, t02, t03⟩ := (HX.out.on hSw).all; obtain ⟨t10, t11, t12, t13⟩ := (HEP.out.on hSw).all; go_simp; try with_reducible rfl)
            try simp only [Act.put, List.getElem_toArray, List.getElem_cons_zero, List.getElem_cons_succ, List.setIfInBounds_toArray, List.set_cons_zero, List.set_cons_succ]
            refine wpAnyH_take (i := 15) (v := ?_) rfl (by kernel_rfl) (by kernel_rfl) (by kernel_rfl) (fun _ _ _ h => h) (Or.inl ⟨by kernel_rfl, ?hy15⟩) (by assumption) ?_
            case hy15 => (intro w hSw; (try dsimp only at hSw); obtain ⟨t00, t01, t02, t03⟩ := (HX.out.on hSw).all; obtain ⟨t10, t11, t12, t13⟩ := (HEP.out.on hSw).all; go_simp; try with_reducible rfl)
            try simp only [Act.put, List.getElem_toArray, List.getElem_cons_zero, List.getElem_cons_succ, List.setIfInBounds_toArray, List.set_cons_zero, List.set_cons_succ]
            refine wpAnyH_take (i := 16) (v := ?_) rfl (by kernel_rfl) (by kernel_rfl) (by kernel_rfl) (fun _ _ _ h => h) (Or.inl ⟨by kernel_rfl, ?hy16⟩) (by assumption) ?_
            case hy16 => (intro w hSw; (try dsimp only at hSw); obtain ⟨t00, t01, t02, t03⟩ := (HX.out.on hSw).all; obtain ⟨t10, t11, t12, t13⟩ := (HEP.out.on hSw).all; go_simp; try with_reducible rfl)
            try simp only [Act.put, List.getElem_toArray, List.getElem_cons_zero, List.getElem_cons_succ, List.setIfInBounds_toArray, List.set_cons_zero, List.set_cons_succ]
            refine wpAnyH_done (by kernel_rfl) ?_ _
            go_wp2
            go_roundw
            case rel => exact ⟨m + 1 + 1, by go_num, by omega, HK2.out, fun k x y hk hx hy => by
              rcases Nat.lt_or_ge (k + 1) (m + 1) with h | h
              · exact HF.out k x y h hx hy
              · obtain rfl : k = m := by omega
                rw [HP.out] at hx
                rw [HR.out] at hy
                cases hx
                cases hy
                exact hf, Below.on HB2.out hHeld⟩
            case measure => simp [numOf]; omega
    · have e1 : decide ((j : Int) < n) = false := decide_eq_false (by omega)
      obtain rfl : j = n := by omega
      have HC : Hid (chn l = true) := chn_all fun k x y hx hy => HF.out k x y (by rw [← HL.out]; exact (List.getElem?_eq_some_iff.1 hy).1) hx hy
      have HC2 : Hid (∀ x ∈ l, Ck x) := fun x hx => by
        obtain ⟨k, hk, e⟩ := List.mem_iff_getElem.1 hx
        exact HK.out k x (by rw [← HL.out]; exact hk) (by rw [List.getElem?_eq_getElem hk, e])
      have HR : Hid (rgn l = prt [] l) := by
        rw [Hid, rgn, HC.out, Bool.true_and, List.all_eq_true.2 fun x hx => dck_iff.2 (HC2.out x hx), Bool.true_and]
      have CP := hid (fun u h => parted_any a j c l u h HC2.out)
      go_wp2_with fail
      refine (CP.out _ (H.out.on HB.out)).mono ?_
      rintro e w2 ⟨rfl, hb2⟩
      go_wp2
      go_ret
      rw [HR.out]
      exact ⟨rfl, Below.on HB.out hb2⟩
end Go.Proofs.Ytlkodgmnhphfcaa

/- Slices of numbers; the contracts of the program's from, odd, least. -/
namespace Go.Proofs.Ytlkodgmnhphfcaa
open Go Go.RowKit

/-- A slice whose first n elements are the numbers l. -/
structure RdJ (w : World) (a : Option Addr) (n c : Nat) (l : List Int) : Prop where
  len : l.length = n
  le : n ≤ c
  max : c ≤ maxLen
  hnil : a = none → c = 0
  pl : 0 < n → ∃ b off, a = some ⟨b, off, none⟩ ∧ b < w.heap.size ∧ ∀ j z, l[j]? = some z → w.cell? ⟨b, off + j, none⟩ = some (.int .i64 z)

theorem RdJ.on {w u : World} {a : Option Addr} {n c : Nat} {l : List Int} (h : RdJ w a n c l) (hb : Below w.heap.size w u) : RdJ u a n c l :=
  ⟨h.len, h.le, h.max, h.hnil, fun hn => by
    obtain ⟨b, off, e, h1, h2⟩ := h.pl hn
    exact ⟨b, off, e, Nat.lt_of_lt_of_le h1 hb.size, fun j r hr => by rw [hb.cell h1]; exact h2 j r hr⟩⟩
theorem RdJ.drewN {w : World} {a : Option Addr} {n c : Nat} {l : List Int} (h : RdJ w a n c l) (q : Nat) : RdJ (w.drewN q) a n c l := h.on (below_drewN (Below.refl _ _) q)
theorem RdJ.nil (w : World) : RdJ w none 0 0 [] := ⟨rfl, Nat.le_refl _, Nat.zero_le _, fun _ => rfl, fun h => absurd h (by omega)⟩
theorem RdJ.small {w : World} {a : Option Addr} {n c : Nat} {l : List Int} (h : RdJ w a n c l) : n ≤ 9223372036854775807 ∧ c ≤ 9223372036854775807 := by
  have h1 := h.le
  have h2 := h.max
  simp only [maxLen] at h2
  omega
theorem RdJ.el {w : World} {a : Option Addr} {n c : Nat} {l : List Int} (h : RdJ w a n c l) {j : Nat} (hj : j < n) : ∃ b off z, a = some ⟨b, off, none⟩ ∧ b < w.heap.size ∧ l[j]? = some z ∧ w.cell? ⟨b, off + j, none⟩ = some (.int .i64 z) := by
  have hl := h.len
  obtain ⟨b, off, e, h1, h2⟩ := h.pl (by omega)
  have hr : l[j]? = some l[j] := List.getElem?_eq_getElem (by omega)
  exact ⟨b, off, _, e, h1, hr, h2 j _ hr⟩
theorem RdJ.drop {w : World} {b off n c : Nat} {l : List Int} (h : RdJ w (some ⟨b, off, none⟩) n c l) {k : Nat} (hk : k ≤ n) : RdJ w (some ⟨b, off + k, none⟩) (n - k) (c - k) (l.drop k) := by
  have hl := h.len
  have hle := h.le
  have hm := h.max
  refine ⟨by rw [List.length_drop]; omega, by omega, by omega, (fun h => by cases h), fun hk0 => ?_⟩
  obtain ⟨b', off', e, h1, h2⟩ := h.pl (by omega)
  cases e
  refine ⟨b, off + k, rfl, h1, fun j r hr => ?_⟩
  rw [List.getElem?_drop] at hr
  have := h2 _ _ hr
  rwa [Nat.add_assoc]
theorem RdJ.none_of {w : World} (a : Option Addr) (c : Nat) (hc : c ≤ maxLen) (hn : a = none → c = 0) : RdJ w a 0 c [] := ⟨rfl, Nat.zero_le _, hc, hn, fun h => absurd h (by omega)⟩

def nums (l : List Int) : List Value := l.map (Value.int .i64)
theorem nums_length (l : List Int) : (nums l).length = l.length := by simp [nums]
theorem nums_append (a b : List Int) : nums (a ++ b) = nums a ++ nums b := by simp [nums]
theorem rdj_of_owns {w : World} {base e n : Nat} {v : Value} {l : List Int} (h : w.ownsRow base e 1 v n (nums l)) : ∃ a c, v = .slice a n c ∧ RdJ w a n c l := by
  have hl : l.length = n := by have := h.1; rw [nums_length] at this; omega
  rcases h.2 with ⟨rfl, rfl⟩ | ⟨g, cap, cur, rfl, hb, hg, hn, hm, _, _⟩
  · obtain rfl : l = [] := List.eq_nil_of_length_eq_zero hl
    exact ⟨none, 0, rfl, RdJ.nil w⟩
  · refine ⟨some ⟨g, 0, none⟩, cap, rfl, hl, hn, hm, (fun h => by cases h), fun _ => ⟨g, 0, rfl, (h.lt g rfl).2, fun j z hz => ?_⟩⟩
    have hj : j < n := by rw [← hl]; exact (List.getElem?_eq_some_iff.1 hz).1
    rw [Nat.zero_add, h.cellAt j (by omega), nums, List.getElem?_map, hz]
    rfl

set_option maxRecDepth 100000 in
set_option maxHeartbeats 1000000 in
theorem from_any (a : Option Addr) (n c : Nat) (l : List Rc) (y : Int) (w0 w : World) (h : RdC w0 a n c l) (hb0 : Below w0.heap.size w0 w) (hk : ∀ x ∈ l, Ck x) :
    Calls Try.prog 64 #[.slice a n c, .int .i64 y] w fun e w' => ∃ a' c', e = .returned (.slice a' (frm l y).length c') ∧ RdC w0 a' (frm l y).length c' (frm l y) ∧ ∃ q, w' = w.drewN q := by
  have H := hid h
  have HB0 := hid hb0
  clear hb0
  have HK := hid hk
  clear h hk
  go_enter Try.func64, Try.ntmps64
  go_wp2
  go_loopw [0] (fun v wr => ∃ (a1 : Option Addr) (n1 c1 : Nat) (l1 : List Rc), v = .slice a1 n1 c1 ∧ RdC w0 a1 n1 c1 l1 ∧ (∀ x ∈ l1, Ck x) ∧ frm l1 y = frm l y ∧ ∃ q, wr = w.drewN q) (fun v _ => lenOf v)
  case atStart => exact ⟨a, n, c, l, rfl, H.out, HK.out, rfl, 0, rfl⟩
  case round =>
    obtain ⟨a1, n1, c1, l1, rfl, h1, k1, hp, q, rfl⟩ := hrel
    have hn1 := h1.len
    have hs1 := h1.small
    cases l1 with
    | nil =>
      obtain rfl : n1 = 0 := hn1.symm
      have HE : Hid (frm l y = []) := by rw [Hid, ← hp]; rfl
      have H1 := hid h1
      clear hp h1 hn1
      go_wp2
      go_quiet (fail)
      go_wp2
      go_ret
      rw [HE.out, World.drewN_drewN]
      exact ⟨_, _, rfl, H1.out, _, rfl⟩
    | cons r t =>
      have hn0 : 0 < n1 := by rw [← hn1]; simp
      have e1 : decide (0 < (n1 : Int)) = true := decide_eq_true (by omega)
      obtain ⟨b, off, rfl, hb, hel⟩ := (h1.on HB0.out).pl hn0
      obtain ⟨_, _, y0, _, h0⟩ := hel 0 r rfl
      simp only [Nat.zero_mul, Nat.add_zero] at y0 h0
      have e2 : IntKind.i64.wrap (r.y + r.h) = r.y + r.h := by
        obtain ⟨g1, g2, g3, g4, g5, g6⟩ := k1 r (by simp)
        rw [IntKind.wrap_i64]
        omega
      have H1 := hid h1
      have HD := hid (h1.drop (show 1 ≤ n1 by omega))
      have K1 := hid k1
      have HP := hid hp
      have hle := h1.le
      rw [List.drop_one, List.tail_cons, Nat.one_mul] at HD
      clear hp h1 hel k1
      have HN := hid hn1
      clear hn1
      cases hq : decide (r.y + r.h ≤ y)
      · have HE : Hid (frm l y = r :: t) := by rw [Hid, ← HP.out, frm, List.dropWhile_cons, if_neg (by rw [hq]; decide)]
        go_wp2
        go_quiet (fail)
        go_wp2
        go_ret
        rw [HE.out, HN.out, World.drewN_drewN]
        exact ⟨some ⟨b, off, none⟩, c1, rfl, H1.out, _, rfl⟩
      · have HE : Hid (frm t y = frm l y) := by rw [Hid, ← HP.out, frm, frm, List.dropWhile_cons, if_pos hq]
        by_cases hc : c1 = 1
        · obtain rfl : n1 = 1 := by omega
          have HD2 : Hid (RdC w0 (some ⟨b, off, none⟩) 0 0 t) := by
            have h1 := HD.out.len
            rw [Hid, List.eq_nil_of_length_eq_zero h1]
            exact RdC.none_of _ _ (Nat.zero_le _) (fun h => by cases h)
          subst hc
          go_wp2
          go_quiet (fail)
          go_wp2
          go_roundw
          case rel => exact ⟨_, _, _, t, rfl, HD2.out, fun x hx => K1.out x (by simp [hx]), HE.out, _, rfl⟩
          case measure => simp [lenOf]
        · go_wp2
          go_quiet (fail)
          go_wp2
          go_roundw
          case rel => exact ⟨_, _, _, t, rfl, HD.out, fun x hx => K1.out x (by simp [hx]), HE.out, _, rfl⟩
          case measure => simp [lenOf]; omega

/-- Odd. -/
def od (n : Nat) : Bool := decide (n % 2 = 1)
theorem od_succ (n : Nat) : od (n + 1) = !od n := by
  unfold od
  rw [Bool.eq_iff_iff]
  simp
  omega

set_option maxRecDepth 100000 in
theorem odd_any (n : Nat) (w : World) : Calls Try.prog 78 #[.int .i64 n] w fun e w' => e = .returned (.bool (od n)) ∧ w' = w := by
  have hr : (n : Int).tmod 2 = ((n % 2 : Nat) : Int) := by rw [Int.tmod_eq_emod_of_nonneg (by omega)]; omega
  go_enter Try.func78, Try.ntmps78
  go_wp2
  go_ret
  refine ⟨ret_bool ?_, rfl⟩
  rw [od, Bool.eq_iff_iff]
  simp
  omega

/-- The least of both. -/
def lst (a b : List Int) : Int := match a, b with
  | [], [] => 0
  | [], y :: _ => y
  | x :: _, [] => x
  | x :: _, y :: _ => min x y

set_option maxRecDepth 100000 in
set_option maxHeartbeats 1000000 in
theorem least_any (a a' : Option Addr) (n c n' c' : Nat) (l m : List Int) (w : World) (h : RdJ w a n c l) (h' : RdJ w a' n' c' m) (h0 : 0 < n ∨ 0 < n') :
    Calls Try.prog 77 #[.slice a n c, .slice a' n' c'] w fun e w' => e = .returned (.int .i64 (lst l m)) ∧ ∃ q, w' = w.drewN q := by
  have hl := h.len
  have hl' := h'.len
  have hn63 := h.small.1
  have hn63' := h'.small.1
  cases l with
  | nil =>
    obtain rfl : n = 0 := hl.symm
    cases m with
    | nil => simp at hl'; omega
    | cons y m =>
      obtain ⟨b, off, rfl, hb, hel⟩ := h'.pl (by omega)
      have y0 := hel 0 y rfl
      simp only [Nat.add_zero] at y0
      have e1 : (0 : Int) < n' := by omega
      clear hel h h' h0 hl hl'
      go_enter Try.func77, Try.ntmps77
      go_wp2
      go_ret
      exact ⟨rfl, 0, rfl⟩
  | cons x l =>
    have hn0 : 0 < n := by rw [← hl]; simp
    obtain ⟨b, off, rfl, hb, hel⟩ := h.pl hn0
    have x0 := hel 0 x rfl
    simp only [Nat.add_zero] at x0
    have e1 : (0 : Int) < n := by omega
    have e3 : ((n : Int) == 0) = false := by simp; omega
    cases m with
    | nil =>
      obtain rfl : n' = 0 := hl'.symm
      clear hel h h' h0 hl
      go_enter Try.func77, Try.ntmps77
      go_wp2
      go_ret
      exact ⟨rfl, 0, rfl⟩
    | cons y m =>
      have hn1 : 0 < n' := by rw [← hl']; simp
      obtain ⟨b', off', rfl, hb', hel'⟩ := h'.pl hn1
      have y0 := hel' 0 y rfl
      simp only [Nat.add_zero] at y0
      have e2 : (0 : Int) < n' := by omega
      have e4 : ((n' : Int) == 0) = false := by simp; omega
      clear hel hel' h h' h0 hl hl'
      go_enter Try.func77, Try.ntmps77
      go_wp2
      -- HERE
      go_region
      all_goals
        go_wp2
        go_ret
        exact ⟨rfl, _, rfl⟩
end Go.Proofs.Ytlkodgmnhphfcaa

/- The library's slices.Sort, slices.Compact and slices.Equal at int, as this program bears them (laid by the kit's own tool, in plain words). -/
namespace Go.Proofs.Ytlkodgmnhphfcaa
open Go Go.RowKit Go.Sort Go.Shelf

def sortA_ren : Go.Shelf.Ren := ⟨fun | 5 => 75 | 8 => 81 | 7 => 80 | 19 => 91 | 20 => 92 | 10 => 82 | 11 => 83 | 12 => 84 | 13 => 85 | 14 => 86 | 15 => 87 | 16 => 88 | 17 => 89 | 18 => 90 | 30 => 93 | 31 => 94 | 32 => 95 | 33 => 96 | 34 => 97 | 35 => 98 | 40 => 99 | n => n, fun | 23 => 60 | 25 => 3 | 3 => 3 | 32 => 92 | 22 => 60 | 0 => 0 | 44 => 103 | 46 => 72 | 4 => 4 | 36 => 95 | 35 => 94 | 41 => 100 | 5 => 5 | 9 => 9 | 53 => 105 | 57 => 109 | 63 => 111 | 64 => 112 | n => n, fun | n => n⟩
theorem sortA : Go.Proofs.SlLaysM.n5 Try.prog sortA_ren := {
  mixed := by kernel_rfl
  f5 := ⟨Try.f75.name, by decide, Try.func75.trans (congrArg some (by kernel_rfl))⟩
  f7 := ⟨Try.f80.name, by decide, Try.func80.trans (congrArg some (by kernel_rfl))⟩
  f8 := Try.func81.trans (congrArg some (by kernel_rfl))
  f10 := ⟨Try.f82.name, by decide, Try.func82.trans (congrArg some (by kernel_rfl))⟩
  f11 := ⟨Try.f83.name, by decide, Try.func83.trans (congrArg some (by kernel_rfl))⟩
  f12 := ⟨Try.f84.name, by decide, Try.func84.trans (congrArg some (by kernel_rfl))⟩
  f13 := ⟨Try.f85.name, by decide, Try.func85.trans (congrArg some (by kernel_rfl))⟩
  f14 := ⟨Try.f86.name, by decide, Try.func86.trans (congrArg some (by kernel_rfl))⟩
  f15 := ⟨Try.f87.name, by decide, Try.func87.trans (congrArg some (by kernel_rfl))⟩
  f16 := ⟨Try.f88.name, by decide, Try.func88.trans (congrArg some (by kernel_rfl))⟩
  f17 := ⟨Try.f89.name, by decide, Try.func89.trans (congrArg some (by kernel_rfl))⟩
  f18 := ⟨Try.f90.name, by decide, Try.func90.trans (congrArg some (by kernel_rfl))⟩
  f19 := Try.func91.trans (congrArg some (by kernel_rfl))
  f20 := Try.func92.trans (congrArg some (by kernel_rfl))
  f30 := ⟨Try.f93.name, by decide, Try.func93.trans (congrArg some (by kernel_rfl))⟩
  f31 := Try.func94.trans (congrArg some (by kernel_rfl))
  f32 := Try.func95.trans (congrArg some (by kernel_rfl))
  f33 := ⟨Try.f96.name, by decide, Try.func96.trans (congrArg some (by kernel_rfl))⟩
  f34 := ⟨Try.f97.name, by decide, Try.func97.trans (congrArg some (by kernel_rfl))⟩
  f35 := ⟨Try.f98.name, by decide, Try.func98.trans (congrArg some (by kernel_rfl))⟩
  f40 := ⟨Try.f99.name, by decide, Try.func99.trans (congrArg some (by kernel_rfl))⟩
  t0 := Try.underlying0
  a0 := Try.isAgg0
  z0 := Try.sizeOf0
  v0 := Try.zeroValue0
  t3 := Try.underlying3
  a3 := Try.isAgg3
  z3 := Try.sizeOf3
  v3 := Try.zeroValue3
  t4 := Try.underlying4
  a4 := Try.isAgg4
  z4 := Try.sizeOf4
  v4 := Try.zeroValue4
  t5 := Try.underlying5
  a5 := Try.isAgg5
  z5 := Try.sizeOf5
  v5 := Try.zeroValue5
  t9 := Try.underlying9
  a9 := Try.isAgg9
  z9 := Try.sizeOf9
  v9 := Try.zeroValue9
  t22 := Try.underlying60
  a22 := Try.isAgg60
  z22 := Try.sizeOf60
  v22 := Try.zeroValue60
  t23 := Try.underlying60
  a23 := Try.isAgg60
  z23 := Try.sizeOf60
  v23 := Try.zeroValue60
  t25 := Try.underlying3
  a25 := Try.isAgg3
  z25 := Try.sizeOf3
  v25 := Try.zeroValue3
  t32 := Try.underlying92
  a32 := Try.isAgg92
  z32 := Try.sizeOf92
  v32 := Try.zeroValue92
  t35 := Try.underlying94
  a35 := Try.isAgg94
  z35 := Try.sizeOf94
  v35 := Try.zeroValue94
  t36 := Try.underlying95
  a36 := Try.isAgg95
  z36 := Try.sizeOf95
  v36 := Try.zeroValue95
  t41 := Try.underlying100
  a41 := Try.isAgg100
  z41 := Try.sizeOf100
  v41 := Try.zeroValue100
  t44 := Try.underlying103
  a44 := Try.isAgg103
  z44 := Try.sizeOf103
  v44 := Try.zeroValue103
  t46 := Try.underlying72
  a46 := Try.isAgg72
  z46 := Try.sizeOf72
  v46 := Try.zeroValue72
  t53 := Try.underlying105
  a53 := Try.isAgg105
  z53 := Try.sizeOf105
  v53 := Try.zeroValue105
  t57 := Try.underlying109
  a57 := Try.isAgg109
  z57 := Try.sizeOf109
  v57 := Try.zeroValue109
  t63 := Try.underlying111
  a63 := Try.isAgg111
  z63 := Try.sizeOf111
  v63 := Try.zeroValue111
  t64 := Try.underlying112
  a64 := Try.isAgg112
  z64 := Try.sizeOf112
  v64 := Try.zeroValue112 }

def compA_ren : Go.Shelf.Ren := ⟨fun | 43 => 76 | n => n, fun | 22 => 60 | 23 => 3 | 3 => 3 | 4 => 4 | 0 => 0 | n => n, fun | n => n⟩
theorem compA : Go.Proofs.SlLaysN.n43 Try.prog compA_ren := {
  mixed := by kernel_rfl
  f43 := ⟨Try.f76.name, by decide, Try.func76.trans (congrArg some (by kernel_rfl))⟩
  t0 := Try.underlying0
  a0 := Try.isAgg0
  z0 := Try.sizeOf0
  v0 := Try.zeroValue0
  t3 := Try.underlying3
  a3 := Try.isAgg3
  z3 := Try.sizeOf3
  v3 := Try.zeroValue3
  t4 := Try.underlying4
  a4 := Try.isAgg4
  z4 := Try.sizeOf4
  v4 := Try.zeroValue4
  t22 := Try.underlying60
  a22 := Try.isAgg60
  z22 := Try.sizeOf60
  v22 := Try.zeroValue60
  t23 := Try.underlying3
  a23 := Try.isAgg3
  z23 := Try.sizeOf3
  v23 := Try.zeroValue3
  i23 := by kernel_rfl }
def eqA_ren : Go.Shelf.Ren := ⟨fun | 33 => 67 | n => n, fun | 22 => 60 | 23 => 3 | 4 => 4 | 3 => 3 | 0 => 0 | n => n, fun | n => n⟩
theorem eqA : Go.Proofs.SlLaysN.n33 Try.prog eqA_ren := {
  mixed := by kernel_rfl
  f33 := ⟨Try.f67.name, by decide, Try.func67.trans (congrArg some (by kernel_rfl))⟩
  t0 := Try.underlying0
  a0 := Try.isAgg0
  z0 := Try.sizeOf0
  v0 := Try.zeroValue0
  t3 := Try.underlying3
  a3 := Try.isAgg3
  z3 := Try.sizeOf3
  v3 := Try.zeroValue3
  t4 := Try.underlying4
  a4 := Try.isAgg4
  z4 := Try.sizeOf4
  v4 := Try.zeroValue4
  t22 := Try.underlying60
  a22 := Try.isAgg60
  z22 := Try.sizeOf60
  v22 := Try.zeroValue60
  t23 := Try.underlying3
  a23 := Try.isAgg3
  z23 := Try.sizeOf3
  v23 := Try.zeroValue3 }
end Go.Proofs.Ytlkodgmnhphfcaa

/- The contracts of the program's edgesAt, heights; slices.Equal. -/
namespace Go.Proofs.Ytlkodgmnhphfcaa
open Go Go.RowKit Go.Sort

theorem src2 (w : World) (y z : Int) : Src Try.prog 1 60 (.slice (some ⟨w.heap.size, 0, none⟩) 2 2) 2 (nums [y, z]) (w.alloc (.cells #[.int .i64 y, .int .i64 z] 3)) :=
  Src.ofSlice (P := Try.prog) _ Try.underlying60 ⟨w.heap.size, 0, none⟩ 2 2 (nums [y, z]) rfl (fun q u hu => by
    match q, hu with
    | 0, hu => cases hu; simp [Addr.add]
    | 1, hu => cases hu; simp [Addr.add]
    | q + 2, hu => simp [nums] at hu) (by simp [nums, Value.oneCell'])
theorem src1 (w : World) (y : Int) : Src Try.prog 1 60 (.slice (some ⟨w.heap.size, 0, none⟩) 1 1) 1 (nums [y]) (w.alloc (.cells #[.int .i64 y] 3)) :=
  Src.ofSlice (P := Try.prog) _ Try.underlying60 ⟨w.heap.size, 0, none⟩ 1 1 (nums [y]) rfl (fun q u hu => by
    match q, hu with
    | 0, hu => cases hu; simp [Addr.add]
    | q + 1, hu => simp [nums] at hu) (by simp [nums, Value.oneCell'])

/-- A row of numbers of the call's own. -/
structure OwJ (w u : World) (v : Value) (l : List Int) : Prop where
  own : u.ownsRow w.heap.size 3 1 v l.length (nums l)
  bel : Below w.heap.size w u

theorem OwJ.on {w u u' : World} {v : Value} {l : List Int} (h : OwJ w u v l) (hb : Below u.heap.size u u') : OwJ w u' v l := ⟨ownsRow_below h.own hb, Below.on h.bel hb⟩
theorem OwJ.base {w w0 u : World} {v : Value} {l : List Int} (h : OwJ w u v l) (hb : Below w0.heap.size w0 w) : OwJ w0 u v l := ⟨ownsRow_low h.own hb.size, Below.on hb h.bel⟩
theorem OwJ.grown {w u u' : World} {v v' : Value} {l m : List Int} {o : Obj} (h : OwJ w u v l) (o2 : u'.ownsRow w.heap.size 3 1 v' (l.length + m.length) (nums l ++ nums m)) (g : (u.alloc o).grownBy u' v.ownBlock) : OwJ w u' v' (l ++ m) :=
  ⟨by rw [List.length_append, nums_append]; exact o2, (h.bel.alloc h.bel.size _).grown g (by rw [World.size_alloc]; have := h.bel.size; omega) (fun k hk => (h.own.lt k hk).1)⟩
theorem OwJ.size {w u : World} {v : Value} {l : List Int} (h : OwJ w u v l) : w.heap.size ≤ u.heap.size := h.bel.size

theorem spans_snoc {l : List Rc} {j : Nat} {r : Rc} (h : l[j]? = some r) : spans (l.take (j + 1)) = spans (l.take j) ++ [r.x, r.x + r.w] := by
  rw [List.take_add_one, h]
  simp [spans]
def tops (l : List Rc) : List Int := l.flatMap fun r => [r.y, r.y + r.h]
theorem tops_append (a b : List Rc) : tops (a ++ b) = tops a ++ tops b := by simp [tops]
theorem tops_snoc {l : List Rc} {j : Nat} {r : Rc} (h : l[j]? = some r) : tops (l.take (j + 1)) = tops (l.take j) ++ [r.y, r.y + r.h] := by
  rw [List.take_add_one, h]
  simp [tops]
theorem tops_length (l : List Rc) : (tops l).length = 2 * l.length := by
  induction l with
  | nil => rfl
  | cons r l ih =>
    show (r.y :: (r.y + r.h) :: tops l).length = _
    rw [List.length_cons, List.length_cons, ih, List.length_cons]
    omega

set_option maxRecDepth 100000 in
set_option maxHeartbeats 2000000 in
theorem edgesat_any (a : Option Addr) (n c : Nat) (l : List Rc) (y : Int) (w : World) (h : RdC w a n c l) (hk : ∀ x ∈ l, Ck x) (hn : n ≤ 1000000) :
    Calls Try.prog 66 #[.slice a n c, .int .i64 y] w fun e w' => ∃ v, e = .returned v ∧ OwJ w w' v (edg l y) := by
  have hl := h.len
  have hs := h.small
  cases l with
  | nil =>
    obtain rfl : n = 0 := hl.symm
    go_enter Try.func66, Try.ntmps66
    go_wp2
    go_ret
    exact ⟨_, rfl, World.ownsRow_nil _ _ _ _, Below.refl _ _⟩
  | cons r t =>
    have hn0 : 0 < n := by rw [← hl]; simp
    obtain ⟨b, off, rfl, hb, hel⟩ := h.pl hn0
    obtain ⟨_, _, y0, _, _⟩ := hel 0 r rfl
    simp only [Nat.zero_mul, Nat.add_zero] at y0
    have e1 : ((n : Int) == 0) = false := by simp; omega
    have e2 : (0 : Int) < n := by omega
    cases hq : decide (y < r.y)
    · have HE : Hid (edg (r :: t) y = spans (band r t)) := by rw [Hid, edg, if_neg (by simpa using hq)]
      have H := hid h
      have HK := hid hk
      have hbl : bl r.y t + 1 ≤ n := by
        rw [← hl, List.length_cons]
        have := (List.takeWhile_sublist (p := fun a : Rc => decide (a.y = r.y)) (l := t)).length_le
        unfold bl
        omega
      have C1 := hid (fun u (hu : RdC u (some ⟨b, off, none⟩) n c (r :: t)) => first_any (some ⟨b, off, none⟩) n c r t u hu)
      have HT := hid (h.take hbl)
      rw [band_take] at HT
      have KB : Hid (∀ x ∈ band r t, Ck x) := fun x hx => HK.out x (by rw [← band_behind]; simp [hx])
      obtain ⟨i0, hi, hz0, hz1, hz2⟩ := info3 infoI
      clear hel h hk hl
      go_enter Try.func66, Try.ntmps66
      go_wp2_with fail
      refine (C1.out _ H.out).mono ?_
      rintro e w2 ⟨rfl, q, rfl⟩
      have HT := hid (HT.out.drewN q)
      have HB := hid (below_drewN (Below.refl w.heap.size w) q)
      obtain ⟨L, hL⟩ : ∃ L, L = band r t := ⟨_, rfl⟩
      obtain ⟨N, hN⟩ : ∃ N, N = bl r.y t + 1 := ⟨_, rfl⟩
      have HNL : Hid (L.length = N) := by rw [Hid, hL, hN]; exact band_len r t
      rw [← hL] at HT HE KB
      rw [← hN] at HT hbl ⊢
      generalize w.drewN q = w2 at HT HB ⊢
      clear hL hN C1 H HK
      have em : IntKind.i64.wrap (2 * (N : Int)) = 2 * (N : Int) := by rw [IntKind.wrap_i64]; omega
      go_wp2_with (at_make; refine wpList_make_own _ rfl _ _ 60 rfl w2.heap.size 3 i0 (.int .i64 0) 1 Try.underlying60 hi hz0 hz1 .i64 .i64 _ (2 * N) rfl rfl (by omega) (by rw [hz2]; omega) (by unfold maxLen; omega) (Nat.le_refl _) ?_; intro w3 own3 grow3)
      have HO : Hid (OwJ w2 w3 (.slice (some ⟨w2.heap.size, 0, none⟩) 0 (2 * N)) []) := ⟨own3, (Below.refl _ _).grown grow3 (Nat.le_refl _) (fun k h => by cases h)⟩
      clear own3 grow3
      go_wp2
      go_loopw [6, 28] (fun v i wr => ∃ j : Nat, i = .int .i64 j ∧ j ≤ N ∧ OwJ w2 wr v (spans (L.take j))) (fun _ i _ => N - (numOf i).toNat)
      case atStart => exact ⟨0, rfl, by omega, HO.out⟩
      case round =>
        obtain ⟨j, rfl, hj, hO⟩ := hrel
        have HO2 := hid hO
        clear hO HO
        by_cases hgo : j < N
        · have e3 : decide ((j : Int) < N) = true := decide_eq_true (by omega)
          obtain ⟨b', off', s, hbo, _, hsj, _, he⟩ := (HT.out.on HO2.out.bel).el hgo
          simp only [Option.some.injEq, Addr.mk.injEq, and_true] at hbo
          obtain ⟨rfl, rfl⟩ := hbo
          obtain ⟨_, c0, c1, c2, c3⟩ := he
          obtain ⟨g1, g2, g3, g4, g5, g6⟩ := KB.out s (List.mem_of_getElem? hsj)
          have HS := hid (spans_snoc hsj)
          have hlen : (spans (L.take j)).length ≤ 2000000 := by rw [spans_length, List.length_take]; omega
          have HX := hid (HO2.out.on (below_new wr (ob s)))
          rw [ob] at HX
          clear hsj
          have HOW := hid (HX.out.own.alloc (.cells #[.int .i64 s.x, .int .i64 (s.x + s.w)] 3))
          have HSR := hid (src2 (wr.alloc (.cells #[.int .i64 s.x, .int .i64 s.y, .int .i64 s.w, .int .i64 s.h] 36)) s.x (s.x + s.w))
          rw [World.size_alloc] at HSR
          have HSZ := (HX.out.on (below_new _ (.cells #[.int .i64 s.x, .int .i64 (s.x + s.w)] 3))).size
          have HA : Hid (∀ v' w', w'.ownsRow w2.heap.size 3 1 v' ((spans (L.take j)).length + 2) (nums (spans (L.take j)) ++ nums [s.x, s.x + s.w]) → ((wr.alloc (.cells #[.int .i64 s.x, .int .i64 s.y, .int .i64 s.w, .int .i64 s.h] 36)).alloc (.cells #[.int .i64 s.x, .int .i64 (s.x + s.w)] 3)).grownBy w' u6.ownBlock → OwJ w2 w' v' (spans (L.take (j + 1)))) := fun v' w' o g => by
            rw [HS.out]
            exact HX.out.grown o g
          clear HO2 HX HS
          generalize spans (L.take j) = K0 at HOW HA hlen
          go_wp2_with (at_builtin; refine wpList_append_own_src _ rfl (.tmp 32) (.tmp 40) 60 60 rfl w2.heap.size 3 i0 (.int .i64 0) 1 8 Try.underlying60 hi hz0 hz1 hz2 rfl _ _ _ rfl HOW.out _ _ _ rfl HSR.out (by simp only [maxLen]; omega) (fitsI (by omega)) HSZ ?_; intro v3 w3 o3 g3; have H3 := hid (HA.out _ _ o3 g3); clear o3 g3 HA HOW HSR HSZ)
          go_wp2
          go_roundw
          case rel => exact ⟨j + 1, by go_num, by omega, H3.out⟩
          case measure => simp [numOf]; omega
        · have e3 : decide ((j : Int) < N) = false := decide_eq_false (by omega)
          obtain rfl : j = N := by omega
          have HF : Hid (spans (L.take j) = edg (r :: t) y) := by rw [Hid, HE.out, List.take_of_length_le (by rw [HNL.out]; exact Nat.le_refl _)]
          go_wp2
          go_ret
          rw [HF.out] at HO2
          exact ⟨_, rfl, HO2.out.base HB.out⟩
    · have HE : Hid (edg (r :: t) y = []) := by rw [Hid, edg, if_pos (by simpa using hq)]
      clear hel h hk hl
      go_enter Try.func66, Try.ntmps66
      go_wp2
      go_ret
      rw [HE.out]
      exact ⟨_, rfl, World.ownsRow_nil _ _ _ _, Below.refl _ _⟩

theorem compact_upto (d : Array Int) (hd : ∀ i j, i ≤ j → j < d.size → d[i]! ≤ d[j]!) : ∀ m, m ≤ d.size → (Lib.compactUpTo d m).Pairwise (· < ·) ∧ (∀ x ∈ Lib.compactUpTo d m, 0 < m ∧ x ≤ d[m - 1]!) ∧ ∀ x, x ∈ Lib.compactUpTo d m ↔ ∃ i < m, d[i]! = x
  | 0, _ => by simp [Lib.compactUpTo]
  | m + 1, hm => by
    obtain ⟨h1, h2, h3⟩ := compact_upto d hd m (by omega)
    rw [Lib.compactUpTo_succ]
    by_cases hk : Lib.keeps d m = true
    · rw [if_pos hk]
      have hlt : ∀ x ∈ Lib.compactUpTo d m, x < d[m]! := fun x hx => by
        obtain ⟨g1, g2⟩ := h2 x hx
        have g3 := hd (m - 1) m (by omega) (by omega)
        have g4 : m = 0 ∨ d[m]! ≠ d[m - 1]! := by simpa [Lib.keeps] using hk
        rcases g4 with g4 | g4
        · omega
        · have : d[m - 1]! ≠ d[m]! := fun e => g4 e.symm
          omega
      refine ⟨?_, fun x hx => ?_, fun x => ?_⟩
      · rw [List.pairwise_append]
        exact ⟨h1, by simp, fun x hx y hy => by simp only [List.mem_singleton] at hy; rw [hy]; exact hlt x hx⟩
      · refine ⟨by omega, ?_⟩
        rcases List.mem_append.1 hx with hx | hx
        · have := hlt x hx; rw [Nat.add_sub_cancel]; omega
        · simp only [List.mem_singleton] at hx; rw [hx, Nat.add_sub_cancel]; exact Int.le_refl _
      · rw [List.mem_append, h3]
        constructor
        · rintro (⟨i, hi, e⟩ | hx)
          · exact ⟨i, by omega, e⟩
          · simp only [List.mem_singleton] at hx; exact ⟨m, by omega, hx.symm⟩
        · rintro ⟨i, hi, e⟩
          rcases Nat.lt_or_ge i m with h | h
          · exact .inl ⟨i, h, e⟩
          · obtain rfl : i = m := by omega
            exact .inr (by simp [e])
    · rw [if_neg hk, List.append_nil]
      have g : m ≠ 0 ∧ d[m]! = d[m - 1]! := by simpa [Lib.keeps] using hk
      refine ⟨h1, fun x hx => ⟨by omega, ?_⟩, fun x => ?_⟩
      · rw [Nat.add_sub_cancel, g.2]; exact (h2 x hx).2
      · rw [h3]
        constructor
        · rintro ⟨i, hi, e⟩; exact ⟨i, by omega, e⟩
        · rintro ⟨i, hi, e⟩
          rcases Nat.lt_or_ge i m with h | h
          · exact ⟨i, h, e⟩
          · obtain rfl : i = m := by omega
            exact ⟨i - 1, by omega, by rw [← g.2]; exact e⟩

theorem compact_ys (l : List Rc) : Lib.compact ((tops l).mergeSort fun x y => decide (x ≤ y)) = ysOf l := by
  obtain ⟨zs, hz⟩ : ∃ zs, zs = (tops l).mergeSort fun x y => decide (x ≤ y) := ⟨_, rfl⟩
  have hp : zs.Pairwise (fun a b => decide (a ≤ b) = true) := by
    rw [hz]
    exact List.pairwise_mergeSort (fun a b c h1 h2 => by simp at h1 h2 ⊢; omega) (fun a b => by simp; omega) _
  have hm : ∀ x, x ∈ zs ↔ x ∈ tops l := fun x => by rw [hz]; exact (List.mergeSort_perm _ _).mem_iff
  rw [← hz]
  have hg : ∀ i, i < zs.toArray.size → zs.toArray[i]! = zs[i]! := fun i hi => by simp
  obtain ⟨h1, _, h3⟩ := compact_upto zs.toArray (fun i j hij hj => by
    rw [hg i (by omega), hg j hj]
    simp only [List.size_toArray] at hj
    rw [getElem!_pos zs i (by omega), getElem!_pos zs j hj]
    rcases Nat.lt_or_ge i j with h | h
    · have := List.pairwise_iff_getElem.1 hp i j (by omega) hj h
      simpa using this
    · obtain rfl : i = j := by omega
      exact Int.le_refl _) zs.toArray.size (Nat.le_refl _)
  refine order_eq _ _ h1 (ys_rise l) (fun a _ b _ h h' => by omega) fun x => ?_
  have e : Lib.compact zs = Lib.compactUpTo zs.toArray zs.toArray.size := by rw [Lib.compact, List.size_toArray]
  rw [e, h3, ys_mem]
  have : (∃ i < zs.toArray.size, zs.toArray[i]! = x) ↔ x ∈ zs := by
    constructor
    · rintro ⟨i, hi, e⟩
      rw [hg i hi] at e
      simp only [List.size_toArray] at hi
      rw [getElem!_pos zs i hi] at e
      rw [← e]
      exact List.getElem_mem hi
    · intro h
      obtain ⟨i, hi, e⟩ := List.mem_iff_getElem.1 h
      exact ⟨i, by simpa using hi, by rw [hg i (by simpa using hi), getElem!_pos zs i hi]; exact e⟩
  rw [this, hm]
  simp [tops]

theorem below_grow {B : Nat} {w0 w : World} (h : RowKit.Below B w0 w) (hB : B ≤ w.heap.size) (os : Array Obj) : RowKit.Below B w0 (Sort.grow w os) :=
  ⟨h.os, h.tape, h.output, by rw [size_grow]; have := h.size; omega, fun k hk => by
    rw [← h.block k hk]
    unfold Sort.grow
    simp only
    rw [Array.getElem?_append_left (by omega)]⟩

theorem compact_len (zs : List Int) : (Lib.compact zs).length ≤ zs.length := by
  rw [Lib.compact, Lib.compactUpTo, List.length_map]
  exact Nat.le_trans (List.length_filter_le _ _) (by simp)

/-- Sorted, and each once. -/
theorem sorted_once {w u : World} {v : Value} {l : List Rc} (h : OwJ w u v (tops l)) (hn : (tops l).length ≤ 4000000) :
    Calls Try.prog 75 #[v] u fun e u1 => e = .returned (.tuple #[]) ∧ Calls Try.prog 76 #[v] u1 fun e u2 => ∃ v', e = .returned v' ∧ OwJ w u2 v' (ysOf l) := by
  rw [← compact_ys]
  generalize tops l = zs at h hn
  rcases h.own.2 with ⟨rfl, h0⟩ | ⟨g, cap, cur, rfl, hb, hg, hnc, hm, hcs, ht⟩
  · obtain rfl : zs = [] := List.eq_nil_of_length_eq_zero h0
    refine (AnyM.slices_Sort_int_none sortA none 0 u).mono ?_
    rintro e u1 ⟨rfl, rfl⟩
    refine ⟨rfl, (AnyG.slices_Compact_int_empty compA none 0 _).mono ?_⟩
    rintro e u2 ⟨rfl, rfl⟩
    exact ⟨_, rfl, by simpa [Lib.compact, Lib.compactUpTo, nums] using World.ownsRow_nil _ _ _ _, h.bel⟩
  · have hgl := (h.own.lt g rfl)
    obtain ⟨_, _, e0, _, _, _, _, _, hH⟩ := Lib.holds_of_ownsRow (enc := Value.int .i64) h.own (by simp)
    cases e0
    refine (AnyM.slices_Sort_int sortA g 0 cap zs u hH hgl.2 (by omega)).mono ?_
    rintro e u1 ⟨rfl, n, os, rfl⟩
    have hlen : (zs.mergeSort fun x y => decide (x ≤ y)).length = zs.length := List.length_mergeSort _
    have own1 := ownsRow_sortedI (w := u) (base := w.heap.size) (g := g) (cap := cap) (n := n) (os := os) (e := 3) (ss := zs) (ts := zs.mergeSort fun x y => decide (x ≤ y)) hlen hb hg hnc hm hcs
    have bel1 : RowKit.Below w.heap.size w (Sort.grow (putRow (Value.int .i64) (Sort.ahead u n) g 0 (zs.mergeSort fun x y => decide (x ≤ y)).toArray) os) := below_grow (Lib.below_putRow h.bel hb) (by
      have := h.bel.size
      simpa [putRow, mapBlock, Sort.ahead] using this) os
    refine ⟨rfl, ?_⟩
    generalize Sort.grow (putRow (Value.int .i64) (Sort.ahead u n) g 0 (zs.mergeSort fun x y => decide (x ≤ y)).toArray) os = u1 at own1 bel1
    generalize (zs.mergeSort fun x y => decide (x ≤ y)) = ss at own1 hlen
    rw [← hlen] at own1 hnc ⊢
    obtain ⟨_, _, e0, _, _, _, _, _, hH1⟩ := Lib.holds_of_ownsRow (enc := Value.int .i64) own1 (by simp)
    cases e0
    refine (AnyG.slices_Compact_int compA g 0 cap ss u1 hH1 (by omega) hnc).mono ?_
    rintro e u2 ⟨rfl, q, rfl⟩
    have hc := compact_len ss
    have own2 := Lib.ownsRow_putRow (enc := Value.int .i64) (q := q) (k := (Lib.compact ss).length) own1 (ys := Lib.compact ss ++ List.replicate (ss.length - (Lib.compact ss).length) 0) (by simp; omega) hc
    rw [List.take_left] at own2
    exact ⟨_, rfl, own2, Lib.below_putRow bel1 hb⟩

set_option maxRecDepth 100000 in
set_option maxHeartbeats 2000000 in
theorem heights_any (a a' : Option Addr) (n c n' c' : Nat) (l m : List Rc) (w : World) (h : RdC w a n c l) (h' : RdC w a' n' c' m) (hk : ∀ x ∈ l, Ck x) (hk' : ∀ x ∈ m, Ck x) (hn : n ≤ 1000000) (hn' : n' ≤ 1000000) :
    Calls Try.prog 63 #[.slice a n c, .slice a' n' c'] w fun e w' => ∃ v, e = .returned v ∧ OwJ w w' v (ysOf (l ++ m)) := by
  have H := hid h
  have H' := hid h'
  have K := hid hk
  have K' := hid hk'
  have HL := hid h.len
  have HL' := hid h'.len
  obtain ⟨i0, hi, hz0, hz1, hz2⟩ := info3 infoI
  clear h h' hk hk'
  have es : IntKind.i64.wrap ((n : Int) + (n' : Int)) = (n : Int) + n' := by rw [IntKind.wrap_i64]; omega
  have em : IntKind.i64.wrap (2 * ((n : Int) + (n' : Int))) = 2 * ((n : Int) + n') := by rw [IntKind.wrap_i64]; omega
  go_enter Try.func63, Try.ntmps63
  go_wp2_with (at_make; refine wpList_make_own _ rfl _ _ 60 rfl w.heap.size 3 i0 (.int .i64 0) 1 Try.underlying60 hi hz0 hz1 .i64 .i64 _ (2 * (n + n')) rfl rfl (by omega) (by rw [hz2]; omega) (by unfold maxLen; omega) (Nat.le_refl _) ?_; intro w3 own3 grow3)
  have HO : Hid (OwJ w w3 (.slice (some ⟨w.heap.size, 0, none⟩) 0 (2 * (n + n'))) (tops (l.take 0))) := ⟨own3, (Below.refl _ _).grown grow3 (Nat.le_refl _) (fun k h => by cases h)⟩
  clear own3 grow3
  go_wp2
  go_loopw [5, 19] (fun v i wr => ∃ j : Nat, i = .int .i64 j ∧ j ≤ n ∧ OwJ w wr v (tops (l.take j))) (fun _ i _ => n - (numOf i).toNat)
  case atStart => exact ⟨0, rfl, by omega, HO.out⟩
  case round =>
    obtain ⟨j, rfl, hj, hO⟩ := hrel
    have HO2 := hid hO
    clear hO HO
    by_cases hgo : j < n
    · have e3 : decide ((j : Int) < n) = true := decide_eq_true (by omega)
      obtain ⟨b, off, s, rfl, _, hsj, _, he⟩ := (H.out.on HO2.out.bel).el hgo
      obtain ⟨_, c0, c1, c2, c3⟩ := he
      obtain ⟨g1, g2, g3, g4, g5, g6⟩ := K.out s (List.mem_of_getElem? hsj)
      have HS := hid (tops_snoc hsj)
      have hlen : (tops (l.take j)).length ≤ 4000000 := by simp only [tops_length, List.length_take]; omega
      have HX := hid (HO2.out.on (below_new wr (ob s)))
      rw [ob] at HX
      clear hsj
      have HOW := hid (HX.out.own.alloc (.cells #[.int .i64 s.y, .int .i64 (s.y + s.h)] 3))
      have HSR := hid (src2 (wr.alloc (.cells #[.int .i64 s.x, .int .i64 s.y, .int .i64 s.w, .int .i64 s.h] 36)) s.y (s.y + s.h))
      rw [World.size_alloc] at HSR
      have HSZ := (HX.out.on (below_new _ (.cells #[.int .i64 s.y, .int .i64 (s.y + s.h)] 3))).size
      have HA : Hid (∀ v' w', w'.ownsRow w.heap.size 3 1 v' ((tops (l.take j)).length + 2) (nums (tops (l.take j)) ++ nums [s.y, s.y + s.h]) → ((wr.alloc (.cells #[.int .i64 s.x, .int .i64 s.y, .int .i64 s.w, .int .i64 s.h] 36)).alloc (.cells #[.int .i64 s.y, .int .i64 (s.y + s.h)] 3)).grownBy w' u5.ownBlock → OwJ w w' v' (tops (l.take (j + 1)))) := fun v' w' o g => by
        rw [HS.out]
        exact HX.out.grown o g
      clear HO2 HX HS
      generalize tops (l.take j) = K0 at HOW HA hlen
      go_wp2_with (at_builtin; refine wpList_append_own_src _ rfl (.tmp 23) (.tmp 31) 60 60 rfl w.heap.size 3 i0 (.int .i64 0) 1 8 Try.underlying60 hi hz0 hz1 hz2 rfl _ _ _ rfl HOW.out _ _ _ rfl HSR.out (by simp only [maxLen]; omega) (fitsI (by omega)) HSZ ?_; intro v3 w3 o3 g3; have H3 := hid (HA.out _ _ o3 g3); clear o3 g3 HA HOW HSR HSZ)
      go_wp2
      go_roundw
      case rel => exact ⟨j + 1, by go_num, by omega, H3.out⟩
      case measure => simp [numOf]; omega
    · have e3 : decide ((j : Int) < n) = false := decide_eq_false (by omega)
      obtain rfl : j = n := by omega
      have HF : Hid (tops (l.take j) = tops l) := by rw [Hid, List.take_of_length_le (by rw [HL.out]; exact Nat.le_refl _)]
      rw [HF.out] at HO2
      have HO : Hid (OwJ w wr u5 (tops l ++ tops (m.take 0))) := by rw [Hid, List.take_zero, show tops [] = [] from rfl, List.append_nil]; exact HO2.out
      clear HO2 HF
      go_wp2
      go_loopw [5, 36] (fun v i wr => ∃ j : Nat, i = .int .i64 j ∧ j ≤ n' ∧ OwJ w wr v (tops l ++ tops (m.take j))) (fun _ i _ => n' - (numOf i).toNat)
      case atStart => exact ⟨0, rfl, by omega, HO.out⟩
      case round =>
        obtain ⟨j, rfl, hj, hO⟩ := hrel
        have HO2 := hid hO
        clear hO HO
        by_cases hgo : j < n'
        · have e3 : decide ((j : Int) < n') = true := decide_eq_true (by omega)
          obtain ⟨b, off, s, rfl, _, hsj, _, he⟩ := (H'.out.on HO2.out.bel).el hgo
          obtain ⟨_, c0, c1, c2, c3⟩ := he
          obtain ⟨g1, g2, g3, g4, g5, g6⟩ := K'.out s (List.mem_of_getElem? hsj)
          have HS := hid (tops_snoc hsj)
          have hlen : (tops l ++ tops (m.take j)).length ≤ 4000000 := by have := HL.out; simp only [List.length_append, tops_length, List.length_take]; omega
          have HX := hid (HO2.out.on (below_new wr (ob s)))
          rw [ob] at HX
          clear hsj
          have HOW := hid (HX.out.own.alloc (.cells #[.int .i64 s.y, .int .i64 (s.y + s.h)] 3))
          have HSR := hid (src2 (wr.alloc (.cells #[.int .i64 s.x, .int .i64 s.y, .int .i64 s.w, .int .i64 s.h] 36)) s.y (s.y + s.h))
          rw [World.size_alloc] at HSR
          have HSZ := (HX.out.on (below_new _ (.cells #[.int .i64 s.y, .int .i64 (s.y + s.h)] 3))).size
          have HA : Hid (∀ v' w', w'.ownsRow w.heap.size 3 1 v' ((tops l ++ tops (m.take j)).length + 2) (nums (tops l ++ tops (m.take j)) ++ nums [s.y, s.y + s.h]) → ((wr.alloc (.cells #[.int .i64 s.x, .int .i64 s.y, .int .i64 s.w, .int .i64 s.h] 36)).alloc (.cells #[.int .i64 s.y, .int .i64 (s.y + s.h)] 3)).grownBy w' u5.ownBlock → OwJ w w' v' (tops l ++ tops (m.take (j + 1)))) := fun v' w' o g => by
            rw [HS.out, ← List.append_assoc]
            exact HX.out.grown o g
          clear HO2 HX HS
          generalize tops l ++ tops (m.take j) = K0 at HOW HA hlen
          go_wp2_with (at_builtin; refine wpList_append_own_src _ rfl (.tmp 40) (.tmp 48) 60 60 rfl w.heap.size 3 i0 (.int .i64 0) 1 8 Try.underlying60 hi hz0 hz1 hz2 rfl _ _ _ rfl HOW.out _ _ _ rfl HSR.out (by simp only [maxLen]; omega) (fitsI (by omega)) HSZ ?_; intro v3 w3 o3 g3; have H3 := hid (HA.out _ _ o3 g3); clear o3 g3 HA HOW HSR HSZ)
          go_wp2
          go_roundw
          case rel => exact ⟨j + 1, by go_num, by omega, H3.out⟩
          case measure => simp [numOf]; omega
        · have e3 : decide ((j : Int) < n') = false := decide_eq_false (by omega)
          obtain rfl : j = n' := by omega
          have HF : Hid (tops l ++ tops (m.take j) = tops (l ++ m)) := by rw [Hid, List.take_of_length_le (by rw [HL'.out]; exact Nat.le_refl _), tops_append]
          rw [HF.out] at HO2
          have CS := hid (sorted_once HO2.out (by rw [tops_length, List.length_append]; have := HL.out; have := HL'.out; omega))
          clear HO2 HF
          go_wp2_with fail
          refine CS.out.mono ?_
          rintro e w4 ⟨rfl, hc4⟩
          have CC := hid hc4
          clear hc4
          go_wp2_with fail
          refine CC.out.mono ?_
          rintro e w5 ⟨v5, rfl, h5⟩
          have H5 := hid h5
          clear h5
          go_wp2
          go_ret
          exact ⟨_, rfl, H5.out⟩
end Go.Proofs.Ytlkodgmnhphfcaa

/- The contracts of slices.Equal at int and of the program's mix. -/
namespace Go.Proofs.Ytlkodgmnhphfcaa
open Go Go.RowKit

/-- The same numbers. -/
def eqi (a b : List Int) : Bool := decide (a = b)
theorem eqi_cons (x y : Int) (a b : List Int) : eqi (x :: a) (y :: b) = (x == y && eqi a b) := by
  rw [Bool.eq_iff_iff]
  simp [eqi]
theorem eqi_len {a b : List Int} (h : a.length ≠ b.length) : eqi a b = false := by
  rw [eqi, decide_eq_false]
  intro e
  exact h (by rw [e])

set_option maxRecDepth 100000 in
set_option maxHeartbeats 1000000 in
theorem equal_any (a a' : Option Addr) (n c n' c' : Nat) (l m : List Int) (w : World) (h : RdJ w a n c l) (h' : RdJ w a' n' c' m) :
    Calls Try.prog 67 #[.slice a n c, .slice a' n' c'] w fun e w' => e = .returned (.bool (eqi l m)) ∧ ∃ q, w' = w.drewN q := by
  have hl := h.len
  have hl' := h'.len
  have hn63 := h.small.1
  have hn63' := h'.small.1
  by_cases hnn : n = n'
  · subst hnn
    have H := hid h
    have H' := hid h'
    have HL := hid hl
    have HL' := hid hl'
    clear h h' hl hl'
    go_enter Try.func67, Try.ntmps67
    go_wp2
    go_loopw [13] (fun i wr => ∃ j : Nat, i = .int .i64 j ∧ j ≤ n ∧ eqi (l.drop j) (m.drop j) = eqi l m ∧ ∃ q, wr = w.drewN q) (fun i _ => n - (numOf i).toNat)
    case atStart => exact ⟨0, rfl, by omega, rfl, 0, rfl⟩
    case round =>
      obtain ⟨j, rfl, hj, hq, q, rfl⟩ := hrel
      by_cases hgo : j < n
      · have e1 : decide ((j : Int) < n) = true := decide_eq_true (by omega)
        have e2 : (j : Int) < n := by omega
        obtain ⟨b, off, x, rfl, _, hx, c0⟩ := H.out.el hgo
        obtain ⟨b', off', y, rfl, _, hy, d0⟩ := H'.out.el hgo
        have HD : Hid (eqi l m = (x == y && eqi (l.drop (j + 1)) (m.drop (j + 1)))) := by
          rw [Hid, ← hq, drop_at hx, drop_at hy, eqi_cons]
        clear hx hy hq
        cases hs : (x == y)
        · have HE : Hid (eqi l m = false) := by rw [Hid, HD.out, hs]; rfl
          go_wp2
          go_quiet (fail)
          go_wp2
          go_ret
          rw [HE.out, World.drewN_drewN]
          exact ⟨rfl, _, rfl⟩
        · have HE : Hid (eqi (l.drop (j + 1)) (m.drop (j + 1)) = eqi l m) := by rw [Hid, HD.out, hs]; rfl
          go_wp2
          go_quiet (fail)
          go_wp2
          go_roundw
          case rel => exact ⟨j + 1, by go_num, by omega, HE.out, _, rfl⟩
          case measure => simp [numOf]; omega
      · have e1 : decide ((j : Int) < n) = false := decide_eq_false (by omega)
        have HE : Hid (eqi l m = true) := by
          rw [Hid, ← hq, List.drop_eq_nil_of_le (by rw [HL.out]; omega), List.drop_eq_nil_of_le (by rw [HL'.out]; omega)]
          rfl
        clear hq
        go_wp2
        go_ret
        rw [HE.out]
        exact ⟨rfl, _, rfl⟩
  · have HE : Hid (eqi l m = false) := eqi_len (by omega)
    have e1 : ((n : Int) == n') = false := by simp; omega
    clear h h' hl hl'
    go_enter Try.func67, Try.ntmps67
    go_wp2
    go_ret
    rw [HE.out]
    exact ⟨rfl, 0, rfl⟩

/-- One step of mix: whether the first is taken, the second, and the rest. -/
def tk1 (a b : List Int) : Bool := match a with
  | [] => false
  | x :: _ => x == lst a b
theorem mix_nil (f : Bool → Bool → Bool) (p q r : Bool) : mix f p q r [] [] = [] := by rw [mix]
def bx (p q : Bool) : Bool := if q = true then !p else p
def dn (p : Bool) (l : List Int) : List Int := if p = true then l.tail else l
theorem mix_step (f : Bool → Bool → Bool) (p q r : Bool) (a b : List Int) (h : a ≠ [] ∨ b ≠ []) :
    mix f p q r a b = if f (bx p (tk1 a b)) (bx q (tk1 b a)) = r then mix f (bx p (tk1 a b)) (bx q (tk1 b a)) r (dn (tk1 a b) a) (dn (tk1 b a) b) else lst a b :: mix f (bx p (tk1 a b)) (bx q (tk1 b a)) (!r) (dn (tk1 a b) a) (dn (tk1 b a) b) := by
  match a, b with
  | [], [] => simp at h
  | x :: a, [] => rw [mix]; simp [tk1, lst, bx, dn]
  | [], y :: b => rw [mix]; simp [tk1, lst, bx, dn]
  | x :: a, y :: b =>
    rw [mix]
    rcases Int.lt_trichotomy x y with h1 | h1 | h1
    · have e1 : tk1 (x :: a) (y :: b) = true := by simp [tk1, lst]; omega
      have e2 : tk1 (y :: b) (x :: a) = false := by simp [tk1, lst]; omega
      have e3 : lst (x :: a) (y :: b) = x := by simp [lst]; omega
      rw [if_pos h1, e1, e2, e3]
      simp [bx, dn]
    · subst h1
      have e1 : tk1 (x :: a) (x :: b) = true := by simp [tk1, lst]
      have e2 : tk1 (x :: b) (x :: a) = true := by simp [tk1, lst]
      have e3 : lst (x :: a) (x :: b) = x := by simp [lst]
      rw [if_neg (by omega), if_neg (by omega), e1, e2, e3]
      simp [bx, dn]
    · have e1 : tk1 (x :: a) (y :: b) = false := by simp [tk1, lst]; omega
      have e2 : tk1 (y :: b) (x :: a) = true := by simp [tk1, lst]; omega
      have e3 : lst (x :: a) (y :: b) = y := by simp [lst]; omega
      rw [if_neg (by omega), if_pos h1, e1, e2, e3]
      simp [bx, dn]
end Go.Proofs.Ytlkodgmnhphfcaa

/- The contract of the program's mix. -/
namespace Go.Proofs.Ytlkodgmnhphfcaa
open Go Go.RowKit

/-- A function of two truths. -/
structure Fn2 (g : Nat) (f : Bool → Bool → Bool) : Prop where
  ent : ∀ args w, (callFunc g args).run Try.prog w = .ok (.enter g args) w
  run : ∀ p q u, Calls Try.prog g #[.bool p, .bool q] u fun e u' => e = .returned (.bool (f p q)) ∧ u' = u

theorem RdJ.cut {w : World} {a : Option Addr} {n c : Nat} {l : List Int} (h : RdJ w a n c l) {k : Nat} (hk : k ≤ n) : RdJ w (Option.map (fun x => x.add k) a) (n - k) (c - k) (l.drop k) := by
  have hl := h.len
  have hle := h.le
  have hm := h.max
  refine ⟨by rw [List.length_drop]; omega, by omega, by omega, (fun e => by
    cases a with
    | none => have := h.hnil rfl; omega
    | some x => cases e), fun hk0 => ?_⟩
  obtain ⟨b, off, rfl, h1, h2⟩ := h.pl (by omega)
  refine ⟨b, off + k, by simp [Addr.add], h1, fun j r hr => ?_⟩
  rw [List.getElem?_drop] at hr
  have := h2 _ _ hr
  rwa [Nat.add_assoc]
theorem RdJ.cut0 {w : World} {a : Option Addr} {n k : Nat} {l : List Int} (h : RdJ w a n k l) : RdJ w a 0 0 (l.drop k) := by
  have hl := h.len
  have hle := h.le
  rw [List.drop_eq_nil_of_le (by omega)]
  exact RdJ.none_of _ _ (Nat.zero_le _) (fun _ => rfl)

/-- mix's state. -/
structure Mx (f : Bool → Bool → Bool) (A B : List Int) (i j : Nat) (E : List Int) : Prop where
  le : E.length ≤ i + j
  eq : E ++ mix f (od i) (od j) (od E.length) (A.drop i) (B.drop j) = mix f false false false A B

theorem lst_comm (a b : List Int) : lst a b = lst b a := by
  cases a <;> cases b <;> simp [lst]
  omega
theorem tk1_some {a b : List Int} (h : a ≠ [] ∨ b ≠ []) : tk1 a b = true ∨ tk1 b a = true := by
  cases a <;> cases b <;> simp [tk1, lst] at h ⊢
  omega
def up (i : Nat) (p : Bool) : Nat := if p = true then i + 1 else i
theorem od_up (i : Nat) (p : Bool) : od (up i p) = bx (od i) p := by
  cases p
  · rfl
  · exact od_succ i
theorem drop_up (l : List Int) (i : Nat) (p : Bool) : l.drop (up i p) = dn p (l.drop i) := by
  cases p
  · rfl
  · simp [up, dn]
theorem Mx.step {f : Bool → Bool → Bool} {A B : List Int} {i j : Nat} {E : List Int} (h : Mx f A B i j E) (hn : A.drop i ≠ [] ∨ B.drop j ≠ []) (i' j' : Nat) (hi : i' = up i (tk1 (A.drop i) (B.drop j))) (hj : j' = up j (tk1 (B.drop j) (A.drop i))) (hlt : i + j + 1 ≤ i' + j') :
    (f (od i') (od j') = od E.length → Mx f A B i' j' E) ∧ (f (od i') (od j') ≠ od E.length → Mx f A B i' j' (E ++ [lst (A.drop i) (B.drop j)])) := by
  have h1 := h.le
  have h2 := h.eq
  rw [mix_step _ _ _ _ _ _ hn, ← od_up, ← od_up, ← drop_up, ← drop_up, ← hi, ← hj] at h2
  constructor
  · intro e
    rw [if_pos e] at h2
    exact ⟨by omega, h2⟩
  · intro e
    rw [if_neg e] at h2
    refine ⟨by rw [List.length_append]; simp; omega, ?_⟩
    rw [List.length_append, List.length_singleton, od_succ, List.append_assoc]
    exact h2

set_option maxRecDepth 100000 in
set_option maxHeartbeats 2000000 in
theorem mix_any (a a' : Option Addr) (n c n' c' : Nat) (A B : List Int) (g : Nat) (f : Bool → Bool → Bool) (w : World) (h : RdJ w a n c A) (h' : RdJ w a' n' c' B) (hg : Fn2 g f) (hn : n ≤ 1000000) (hn' : n' ≤ 1000000) :
    Calls Try.prog 65 #[.slice a n c, .slice a' n' c', .func (.func g) #[] #[]] w fun e w' => ∃ v, e = .returned v ∧ OwJ w w' v (mix f false false false A B) := by
  have H := hid h
  have H' := hid h'
  have HL := hid h.len
  have HL' := hid h'.len
  have hs := h.small
  have hs' := h'.small
  have hle := h.le
  have hle' := h'.le
  have eg := hg.ent
  have HG := hid hg
  obtain ⟨i0, hi, hz0, hz1, hz2⟩ := info3 infoI
  clear h h' hg
  go_enter Try.func65, Try.ntmps65
  go_wp2
  go_loopw [7, 8, 9] (fun v x y wr => ∃ (i j : Nat) (E : List Int), x = .int .i64 i ∧ y = .int .i64 j ∧ i ≤ n ∧ j ≤ n' ∧ Mx f A B i j E ∧ OwJ w wr v E) (fun _ x y _ => (n - (numOf x).toNat) + (n' - (numOf y).toNat))
  case atStart => exact ⟨0, 0, [], rfl, rfl, by omega, by omega, ⟨by simp, by simp [od]⟩, World.ownsRow_nil _ _ _ _, Below.refl _ _⟩
  case round =>
    obtain ⟨i, j, E, rfl, rfl, hin, hjn, hM, hO⟩ := hrel
    have HM := hid hM
    have HO := hid hO
    clear hM hO
    by_cases hgo : i < n ∨ j < n'
    · have HN : Hid (A.drop i ≠ [] ∨ B.drop j ≠ []) := by
        rcases hgo with h | h
        · exact .inl (fun e => by have := congrArg List.length e; rw [List.length_drop, HL.out] at this; simp at this; omega)
        · exact .inr (fun e => by have := congrArg List.length e; rw [List.length_drop, HL'.out] at this; simp at this; omega)
      obtain ⟨X, hX⟩ : ∃ X, X = lst (A.drop i) (B.drop j) := ⟨_, rfl⟩
      have HX := hid hX
      clear hX
      have CL : Hid (∀ (ad ad' : Option Addr) (m k m' k' : Nat) (u : World), RdJ u ad m k (A.drop i) → RdJ u ad' m' k' (B.drop j) → Calls Try.prog 77 #[.slice ad m k, .slice ad' m' k'] u fun e w' => e = .returned (.int .i64 X) ∧ ∃ q, w' = u.drewN q) := fun ad ad' m k m' k' u h1 h2 => by
        rw [HX.out]
        have l1 := h1.len
        have l2 := h2.len
        rw [List.length_drop, HL.out] at l1
        rw [List.length_drop, HL'.out] at l2
        exact least_any ad ad' m k m' k' _ _ u h1 h2 (by omega)
      go_upto_region 3 with fail
      go_cut [20] from 11 to 69 (fun v wx => v = .bool true ∧ wx = wr)
      case first =>
        cases e1 : decide (i < n)
        · have e2 : decide (j < n') = true := by rcases hgo with h | h; simp [h] at e1; simpa using h
          go_wp2_with fail
          go_meet
          exact ⟨rfl, rfl⟩
        · go_wp2_with fail
          go_meet
          exact ⟨rfl, rfl⟩
      case rest =>
        obtain ⟨rfl, rfl⟩ := hcut
        go_upto_region 4 with fail
        go_cut [10] from 11 to 69 (fun v wx => v = .int .i64 X ∧ RowKit.Below wc.heap.size wc wx)
        case first =>
          by_cases hci : c = i
          · subst hci
            have hcj : ¬ c' = j := by omega
            refine wp_region_held_drew (S := fun x => Below wc.heap.size wc x) (by kernel_rfl) (Below.refl _ _).drew (fun hHeld => ?_)
            have hHeld : Below wc.heap.size wc wc.drew := hHeld
            refine wpAnyH_take (i := 0) (v := ?_) rfl (by kernel_rfl) (by kernel_rfl) (by kernel_rfl) (fun _ _ _ h => h) (Or.inl ⟨by kernel_rfl, ?hy0⟩) (by assumption) ?_
            case hy0 => (intro w hSw; (try dsimp only at hSw); go_simp; try with_reducible rfl)
            try simp only [Act.put, List.getElem_toArray, List.getElem_cons_zero, List.setIfInBounds_toArray, List.set_cons_zero, List.set_cons_succ]
            refine wpAnyH_take (i := 1) (v := ?_) rfl (by kernel_rfl) (by kernel_rfl) (by kernel_rfl) (fun _ _ _ h => h) (Or.inl ⟨by kernel_rfl, ?hy1⟩) (by assumption) ?_
            case hy1 => (intro w hSw; (try dsimp only at hSw); go_simp; try with_reducible rfl)
            try simp only [Act.put, List.getElem_toArray, List.getElem_cons_zero, List.getElem_cons_succ, List.setIfInBounds_toArray, List.set_cons_zero, List.set_cons_succ]
            refine wpAnyH_take (i := 2) (v := ?_) rfl (by kernel_rfl) (by kernel_rfl) (by kernel_rfl) (fun _ _ _ h => h) (Or.inl ⟨by kernel_rfl, ?hy2⟩) (by assumption) ?_
            case hy2 => (intro w hSw; (try dsimp only at hSw); go_simp; try with_reducible rfl)
            try simp only [Act.put, List.getElem_toArray, List.getElem_cons_zero, List.getElem_cons_succ, List.setIfInBounds_toArray, List.set_cons_zero, List.set_cons_succ]
            refine wpAnyH_take (i := 3) (v := ?_) rfl (by kernel_rfl) (by kernel_rfl) (by kernel_rfl) (fun _ _ _ h => h) (Or.inl ⟨by kernel_rfl, ?hy3⟩) (by assumption) ?_
            case hy3 => (intro w hSw; (try dsimp only at hSw); go_simp; try with_reducible rfl)
            try simp only [Act.put, List.getElem_toArray, List.getElem_cons_zero, List.getElem_cons_succ, List.setIfInBounds_toArray, List.set_cons_zero, List.set_cons_succ]
            refine wpAnyH_take (i := 4) (v := ?_) rfl (by kernel_rfl) (by kernel_rfl) (by kernel_rfl) (fun _ _ _ h => h) (Or.inl ⟨by kernel_rfl, ?hy4⟩) (by assumption) ?_
            case hy4 => (intro w hSw; (try dsimp only at hSw); go_simp; try with_reducible rfl)
            try simp only [Act.put, List.getElem_toArray, List.getElem_cons_zero, List.getElem_cons_succ, List.setIfInBounds_toArray, List.set_cons_zero, List.set_cons_succ]
            refine wpAnyH_take (i := 5) (v := ?_) rfl (by kernel_rfl) (by kernel_rfl) (by kernel_rfl) (fun _ _ _ h => h) (Or.inl ⟨by kernel_rfl, ?hy5⟩) (by assumption) ?_
            case hy5 => (intro w hSw; (try dsimp only at hSw); go_simp; try with_reducible rfl)
            try simp only [Act.put, List.getElem_toArray, List.getElem_cons_zero, List.getElem_cons_succ, List.setIfInBounds_toArray, List.set_cons_zero, List.set_cons_succ]
            refine wpAnyH_ready (rs := [6]) (by kernel_rfl) (by simp) ?_
            refine AllReadyH.cons rfl (fun K hK => ?_) AllReadyH.nil
            go_simp
            go_wp2_with fail
            refine (CL.out a (Option.map (fun x => x.add j) a') 0 0 (n' - j) (c' - j) _ (H.out.on (Below.on HO.out.bel hHeld)).cut0 ((H'.out.on (Below.on HO.out.bel hHeld)).cut hjn)).mono ?_
            rintro e u27 ⟨rfl, q27, rfl⟩
            replace hHeld := below_drewN hHeld q27
            refine hK.out _ _ hHeld (fun _ => ?_)
            clear hK K
            refine wpAnyH_take (i := 7) (v := ?_) rfl (by kernel_rfl) (by kernel_rfl) (by kernel_rfl) (fun _ _ _ h => h) (Or.inl ⟨by kernel_rfl, ?hy7⟩) (by assumption) ?_
            case hy7 => (intro w hSw; (try dsimp only at hSw); go_simp; try with_reducible rfl)
            try simp only [Act.put, List.getElem_toArray, List.getElem_cons_zero, List.getElem_cons_succ, List.setIfInBounds_toArray, List.set_cons_zero, List.set_cons_succ]
            refine wpAnyH_done (by kernel_rfl) ?_ _
            go_wp2_with fail
            go_meet
            exact ⟨rfl, hHeld⟩
          · by_cases hcj : c' = j
            · subst hcj
              refine wp_region_held_drew (S := fun x => Below wc.heap.size wc x) (by kernel_rfl) (Below.refl _ _).drew (fun hHeld => ?_)
              have hHeld : Below wc.heap.size wc wc.drew := hHeld
              refine wpAnyH_take (i := 0) (v := ?_) rfl (by kernel_rfl) (by kernel_rfl) (by kernel_rfl) (fun _ _ _ h => h) (Or.inl ⟨by kernel_rfl, ?hy0⟩) (by assumption) ?_
              case hy0 => (intro w hSw; (try dsimp only at hSw); go_simp; try with_reducible rfl)
              try simp only [Act.put, List.getElem_toArray, List.getElem_cons_zero, List.setIfInBounds_toArray, List.set_cons_zero, List.set_cons_succ]
              refine wpAnyH_take (i := 1) (v := ?_) rfl (by kernel_rfl) (by kernel_rfl) (by kernel_rfl) (fun _ _ _ h => h) (Or.inl ⟨by kernel_rfl, ?hy1⟩) (by assumption) ?_
              case hy1 => (intro w hSw; (try dsimp only at hSw); go_simp; try with_reducible rfl)
              try simp only [Act.put, List.getElem_toArray, List.getElem_cons_zero, List.getElem_cons_succ, List.setIfInBounds_toArray, List.set_cons_zero, List.set_cons_succ]
              refine wpAnyH_take (i := 2) (v := ?_) rfl (by kernel_rfl) (by kernel_rfl) (by kernel_rfl) (fun _ _ _ h => h) (Or.inl ⟨by kernel_rfl, ?hy2⟩) (by assumption) ?_
              case hy2 => (intro w hSw; (try dsimp only at hSw); go_simp; try with_reducible rfl)
              try simp only [Act.put, List.getElem_toArray, List.getElem_cons_zero, List.getElem_cons_succ, List.setIfInBounds_toArray, List.set_cons_zero, List.set_cons_succ]
              refine wpAnyH_take (i := 3) (v := ?_) rfl (by kernel_rfl) (by kernel_rfl) (by kernel_rfl) (fun _ _ _ h => h) (Or.inl ⟨by kernel_rfl, ?hy3⟩) (by assumption) ?_
              case hy3 => (intro w hSw; (try dsimp only at hSw); go_simp; try with_reducible rfl)
              try simp only [Act.put, List.getElem_toArray, List.getElem_cons_zero, List.getElem_cons_succ, List.setIfInBounds_toArray, List.set_cons_zero, List.set_cons_succ]
              refine wpAnyH_take (i := 4) (v := ?_) rfl (by kernel_rfl) (by kernel_rfl) (by kernel_rfl) (fun _ _ _ h => h) (Or.inl ⟨by kernel_rfl, ?hy4⟩) (by assumption) ?_
              case hy4 => (intro w hSw; (try dsimp only at hSw); go_simp; try with_reducible rfl)
              try simp only [Act.put, List.getElem_toArray, List.getElem_cons_zero, List.getElem_cons_succ, List.setIfInBounds_toArray, List.set_cons_zero, List.set_cons_succ]
              refine wpAnyH_take (i := 5) (v := ?_) rfl (by kernel_rfl) (by kernel_rfl) (by kernel_rfl) (fun _ _ _ h => h) (Or.inl ⟨by kernel_rfl, ?hy5⟩) (by assumption) ?_
              case hy5 => (intro w hSw; (try dsimp only at hSw); go_simp; try with_reducible rfl)
              try simp only [Act.put, List.getElem_toArray, List.getElem_cons_zero, List.getElem_cons_succ, List.setIfInBounds_toArray, List.set_cons_zero, List.set_cons_succ]
              refine wpAnyH_ready (rs := [6]) (by kernel_rfl) (by simp) ?_
              refine AllReadyH.cons rfl (fun K hK => ?_) AllReadyH.nil
              go_simp
              go_wp2_with fail
              refine (CL.out (Option.map (fun x => x.add i) a) a' (n - i) (c - i) 0 0 _ ((H.out.on (Below.on HO.out.bel hHeld)).cut hin) (H'.out.on (Below.on HO.out.bel hHeld)).cut0).mono ?_
              rintro e u27 ⟨rfl, q27, rfl⟩
              replace hHeld := below_drewN hHeld q27
              refine hK.out _ _ hHeld (fun _ => ?_)
              clear hK K
              refine wpAnyH_take (i := 7) (v := ?_) rfl (by kernel_rfl) (by kernel_rfl) (by kernel_rfl) (fun _ _ _ h => h) (Or.inl ⟨by kernel_rfl, ?hy7⟩) (by assumption) ?_
              case hy7 => (intro w hSw; (try dsimp only at hSw); go_simp; try with_reducible rfl)
              try simp only [Act.put, List.getElem_toArray, List.getElem_cons_zero, List.getElem_cons_succ, List.setIfInBounds_toArray, List.set_cons_zero, List.set_cons_succ]
              refine wpAnyH_done (by kernel_rfl) ?_ _
              go_wp2_with fail
              go_meet
              exact ⟨rfl, hHeld⟩
            · -- x
              refine wp_region_held_drew (S := fun x => Below wc.heap.size wc x) (by kernel_rfl) (Below.refl _ _).drew (fun hHeld => ?_)
              have hHeld : Below wc.heap.size wc wc.drew := hHeld
              refine wpAnyH_take (i := 0) (v := ?_) rfl (by kernel_rfl) (by kernel_rfl) (by kernel_rfl) (fun _ _ _ h => h) (Or.inl ⟨by kernel_rfl, ?hy0⟩) (by assumption) ?_
              case hy0 => (intro w hSw; (try dsimp only at hSw); go_simp; try with_reducible rfl)
              try simp only [Act.put, List.getElem_toArray, List.getElem_cons_zero, List.setIfInBounds_toArray, List.set_cons_zero, List.set_cons_succ]
              refine wpAnyH_take (i := 1) (v := ?_) rfl (by kernel_rfl) (by kernel_rfl) (by kernel_rfl) (fun _ _ _ h => h) (Or.inl ⟨by kernel_rfl, ?hy1⟩) (by assumption) ?_
              case hy1 => (intro w hSw; (try dsimp only at hSw); go_simp; try with_reducible rfl)
              try simp only [Act.put, List.getElem_toArray, List.getElem_cons_zero, List.getElem_cons_succ, List.setIfInBounds_toArray, List.set_cons_zero, List.set_cons_succ]
              refine wpAnyH_take (i := 2) (v := ?_) rfl (by kernel_rfl) (by kernel_rfl) (by kernel_rfl) (fun _ _ _ h => h) (Or.inl ⟨by kernel_rfl, ?hy2⟩) (by assumption) ?_
              case hy2 => (intro w hSw; (try dsimp only at hSw); go_simp; try with_reducible rfl)
              try simp only [Act.put, List.getElem_toArray, List.getElem_cons_zero, List.getElem_cons_succ, List.setIfInBounds_toArray, List.set_cons_zero, List.set_cons_succ]
              refine wpAnyH_take (i := 3) (v := ?_) rfl (by kernel_rfl) (by kernel_rfl) (by kernel_rfl) (fun _ _ _ h => h) (Or.inl ⟨by kernel_rfl, ?hy3⟩) (by assumption) ?_
              case hy3 => (intro w hSw; (try dsimp only at hSw); go_simp; try with_reducible rfl)
              try simp only [Act.put, List.getElem_toArray, List.getElem_cons_zero, List.getElem_cons_succ, List.setIfInBounds_toArray, List.set_cons_zero, List.set_cons_succ]
              refine wpAnyH_take (i := 4) (v := ?_) rfl (by kernel_rfl) (by kernel_rfl) (by kernel_rfl) (fun _ _ _ h => h) (Or.inl ⟨by kernel_rfl, ?hy4⟩) (by assumption) ?_
              case hy4 => (intro w hSw; (try dsimp only at hSw); go_simp; try with_reducible rfl)
              try simp only [Act.put, List.getElem_toArray, List.getElem_cons_zero, List.getElem_cons_succ, List.setIfInBounds_toArray, List.set_cons_zero, List.set_cons_succ]
              refine wpAnyH_take (i := 5) (v := ?_) rfl (by kernel_rfl) (by kernel_rfl) (by kernel_rfl) (fun _ _ _ h => h) (Or.inl ⟨by kernel_rfl, ?hy5⟩) (by assumption) ?_
              case hy5 => (intro w hSw; (try dsimp only at hSw); go_simp; try with_reducible rfl)
              try simp only [Act.put, List.getElem_toArray, List.getElem_cons_zero, List.getElem_cons_succ, List.setIfInBounds_toArray, List.set_cons_zero, List.set_cons_succ]
              refine wpAnyH_ready (rs := [6]) (by kernel_rfl) (by simp) ?_
              refine AllReadyH.cons rfl (fun K hK => ?_) AllReadyH.nil
              go_simp
              go_wp2_with fail
              refine (CL.out (Option.map (fun x => x.add i) a) (Option.map (fun x => x.add j) a') (n - i) (c - i) (n' - j) (c' - j) _ ((H.out.on (Below.on HO.out.bel hHeld)).cut hin) ((H'.out.on (Below.on HO.out.bel hHeld)).cut hjn)).mono ?_
              rintro e u27 ⟨rfl, q27, rfl⟩
              replace hHeld := below_drewN hHeld q27
              refine hK.out _ _ hHeld (fun _ => ?_)
              clear hK K
              refine wpAnyH_take (i := 7) (v := ?_) rfl (by kernel_rfl) (by kernel_rfl) (by kernel_rfl) (fun _ _ _ h => h) (Or.inl ⟨by kernel_rfl, ?hy7⟩) (by assumption) ?_
              case hy7 => (intro w hSw; (try dsimp only at hSw); go_simp; try with_reducible rfl)
              try simp only [Act.put, List.getElem_toArray, List.getElem_cons_zero, List.getElem_cons_succ, List.setIfInBounds_toArray, List.set_cons_zero, List.set_cons_succ]
              refine wpAnyH_done (by kernel_rfl) ?_ _
              go_wp2_with fail
              go_meet
              exact ⟨rfl, hHeld⟩
        case rest =>
          obtain ⟨rfl, hb2⟩ := hcut
          have HO2 := hid (HO.out.on hb2)
          clear HO hb2 CL
          obtain ⟨p1, hp1⟩ : ∃ p1, p1 = tk1 (A.drop i) (B.drop j) := ⟨_, rfl⟩
          obtain ⟨p2, hp2⟩ : ∃ p2, p2 = tk1 (B.drop j) (A.drop i) := ⟨_, rfl⟩
          have HP1 := hid hp1
          have HP2 := hid hp2
          clear hp1 hp2
          go_upto_region 5 with fail
          go_cut [39] from 11 to 69 (fun v wx => v = .bool p1 ∧ wx = wc)
          case first =>
            by_cases h1 : i < n
            · have e1 : decide (i < n) = true := decide_eq_true h1
              have e2 : (i : Int) < n := by omega
              obtain ⟨b, off, x, rfl, _, hx, c0⟩ := (H.out.on HO2.out.bel).el h1
              have HT : Hid ((x == X) = p1) := by rw [Hid, HP1.out, HX.out, drop_at hx]; rfl
              have hT := HT.out
              clear hx HT
              go_wp2_with fail
              go_meet
              exact ⟨rfl, rfl⟩
            · have e1 : decide (i < n) = false := decide_eq_false h1
              have HT : Hid (p1 = false) := by rw [Hid, HP1.out, List.drop_eq_nil_of_le (by rw [HL.out]; omega)]; rfl
              go_wp2_with fail
              go_meet
              exact ⟨by rw [HT.out], rfl⟩
          case rest =>
          obtain ⟨rfl, rfl⟩ := hcut
          go_upto_if 39 with fail
          go_cut [8] from 11 to 69 (fun v wx => v = .int .i64 (up i p1) ∧ wx = wc)
          case first =>
            cases p1
            · go_wp2_with fail
              go_meet
              exact ⟨rfl, rfl⟩
            · go_wp2_with fail
              go_meet
              exact ⟨by simp [up], rfl⟩
          case rest =>
          obtain ⟨rfl, rfl⟩ := hcut
          go_upto_region 7 with fail
          go_cut [53] from 11 to 69 (fun v wx => v = .bool p2 ∧ wx = wc)
          case first =>
            by_cases h1 : j < n'
            · have e1 : decide (j < n') = true := decide_eq_true h1
              have e2 : (j : Int) < n' := by omega
              obtain ⟨b, off, x, rfl, _, hx, c0⟩ := (H'.out.on HO2.out.bel).el h1
              have HT : Hid ((x == X) = p2) := by rw [Hid, HP2.out, HX.out, lst_comm, drop_at hx]; rfl
              have hT := HT.out
              clear hx HT
              go_wp2_with fail
              go_meet
              exact ⟨rfl, rfl⟩
            · have e1 : decide (j < n') = false := decide_eq_false h1
              have HT : Hid (p2 = false) := by rw [Hid, HP2.out, List.drop_eq_nil_of_le (by rw [HL'.out]; omega)]; rfl
              go_wp2_with fail
              go_meet
              exact ⟨by rw [HT.out], rfl⟩
          case rest =>
          obtain ⟨rfl, rfl⟩ := hcut
          go_upto_if 53 with fail
          go_cut [9] from 11 to 69 (fun v wx => v = .int .i64 (up j p2) ∧ wx = wc)
          case first =>
            cases p2
            · go_wp2_with fail
              go_meet
              exact ⟨rfl, rfl⟩
            · go_wp2_with fail
              go_meet
              exact ⟨by simp [up], rfl⟩
          case rest =>
          obtain ⟨rfl, rfl⟩ := hcut
          have HI : Hid (up i p1 ≤ n ∧ up j p2 ≤ n' ∧ i + j + 1 ≤ up i p1 + up j p2) := by
            have b1 : p1 = true → i < n := fun e => by
              rcases Nat.lt_or_ge i n with h | h
              · exact h
              · rw [HP1.out, List.drop_eq_nil_of_le (by rw [HL.out]; exact h)] at e; cases e
            have b2 : p2 = true → j < n' := fun e => by
              rcases Nat.lt_or_ge j n' with h | h
              · exact h
              · rw [HP2.out, List.drop_eq_nil_of_le (by rw [HL'.out]; exact h)] at e; cases e
            have b3 : p1 = true ∨ p2 = true := by rw [HP1.out, HP2.out]; exact tk1_some HN.out
            rw [Hid]
            unfold up
            cases p1 <;> cases p2 <;> simp at b1 b2 b3 ⊢ <;> omega
          obtain ⟨i', hi'⟩ : ∃ i', i' = up i p1 := ⟨_, rfl⟩
          obtain ⟨j', hj'⟩ : ∃ j', j' = up j p2 := ⟨_, rfl⟩
          have HMl := hid HM.out.le
          have HS := hid (HM.out.step HN.out i' j' (by rw [hi', HP1.out]) (by rw [hj', HP2.out]) (by rw [hi', hj']; exact HI.out.2.2))
          rw [← HX.out] at HS
          rw [← hi', ← hj'] at HI ⊢
          clear hi' hj' HP1 HP2 HN HX HM
          obtain ⟨b1, b2, b3⟩ := HI.out
          have C1 := hid (fun u => odd_any i' u)
          have C2 := hid (fun u => odd_any j' u)
          have C3 := hid (fun u => odd_any E.length u)
          have C4 := hid (fun u => HG.out.run (od i') (od j') u)
          obtain ⟨av, cv, hv, hEr⟩ := rdj_of_owns HO2.out.own
          have hEl := hEr.small
          subst hv
          clear hEr
          go_wp2_with fail
          refine (C1.out _).mono ?_
          rintro e w1 ⟨rfl, rfl⟩
          go_wp2_with fail
          refine (C2.out _).mono ?_
          rintro e w2 ⟨rfl, rfl⟩
          go_wp2_with fail
          refine (C4.out _).mono ?_
          rintro e w2 ⟨rfl, rfl⟩
          go_wp2_with fail
          refine (C3.out _).mono ?_
          rintro e w2 ⟨rfl, rfl⟩
          have HOW := hid (HO2.out.own.alloc (.cells #[.int .i64 X] 3))
          have HSR := hid (src1 w2 X)
          have HSZ := (HO2.out.on (below_new _ (.cells #[.int .i64 X] 3))).size
          have hlen : E.length ≤ 3000000 := by
            rcases Nat.lt_or_ge 3000000 E.length with h | h
            · exfalso
              have h2 : E.length ≤ i + j := HMl.out
              omega
            · exact h
          have HA : Hid (∀ v' w', w'.ownsRow w.heap.size 3 1 v' (E.length + 1) (nums E ++ nums [X]) → (w2.alloc (.cells #[.int .i64 X] 3)).grownBy w' (Value.slice av E.length cv).ownBlock → OwJ w w' v' (E ++ [X])) := fun v' w' o g => HO2.out.grown o g
          clear C1 C2 C3 C4
          generalize f (od i') (od j') = r1 at HS ⊢
          generalize od E.length = r2 at HS ⊢
          cases r1 <;> cases r2
          · have HM2 := hid (HS.out.1 rfl)
            clear HOW HSR HSZ HA
            go_wp2
            go_roundw
            case rel => exact ⟨i', j', E, rfl, rfl, b1, b2, HM2.out, HO2.out⟩
            case measure => simp [numOf]; omega
          · have HM2 := hid (HS.out.2 (by decide))
            go_wp2_with (at_builtin; refine wpList_append_own_src _ rfl (.tmp 66) (.tmp 68) 60 60 rfl w.heap.size 3 i0 (.int .i64 0) 1 8 Try.underlying60 hi hz0 hz1 hz2 rfl _ _ _ rfl HOW.out _ _ _ rfl HSR.out (by simp only [maxLen]; omega) (fitsI (by omega)) HSZ ?_; intro v3 w3 o3 g3; have H3 := hid (HA.out _ _ o3 g3); clear o3 g3 HA HOW HSR HSZ)
            go_wp2
            go_roundw
            case rel => exact ⟨i', j', E ++ [X], rfl, rfl, b1, b2, HM2.out, H3.out⟩
            case measure => simp [numOf]; omega
          · have HM2 := hid (HS.out.2 (by decide))
            go_wp2_with (at_builtin; refine wpList_append_own_src _ rfl (.tmp 66) (.tmp 68) 60 60 rfl w.heap.size 3 i0 (.int .i64 0) 1 8 Try.underlying60 hi hz0 hz1 hz2 rfl _ _ _ rfl HOW.out _ _ _ rfl HSR.out (by simp only [maxLen]; omega) (fitsI (by omega)) HSZ ?_; intro v3 w3 o3 g3; have H3 := hid (HA.out _ _ o3 g3); clear o3 g3 HA HOW HSR HSZ)
            go_wp2
            go_roundw
            case rel => exact ⟨i', j', E ++ [X], rfl, rfl, b1, b2, HM2.out, H3.out⟩
            case measure => simp [numOf]; omega
          · have HM2 := hid (HS.out.1 rfl)
            clear HOW HSR HSZ HA
            go_wp2
            go_roundw
            case rel => exact ⟨i', j', E, rfl, rfl, b1, b2, HM2.out, HO2.out⟩
            case measure => simp [numOf]; omega
    · have e1 : decide ((i : Int) < n) = false := decide_eq_false (by omega)
      have e2 : decide ((j : Int) < n') = false := decide_eq_false (by omega)
      have HE : Hid (E = mix f false false false A B) := by
        have := HM.out.eq
        rw [List.drop_eq_nil_of_le (by rw [HL.out]; omega), List.drop_eq_nil_of_le (by rw [HL'.out]; omega), mix_nil, List.append_nil] at this
        exact this
      go_wp2
      go_ret
      rw [← HE.out]
      exact ⟨_, rfl, HO.out⟩
end Go.Proofs.Ytlkodgmnhphfcaa
