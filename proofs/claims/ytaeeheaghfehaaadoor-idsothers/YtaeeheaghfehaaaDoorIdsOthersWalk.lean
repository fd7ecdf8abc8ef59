/- IdsOthers: for every script and number the call returns true; nothing that was there has turned. -/
import Derived.Test.YtaeeheaghfehaaaDoorIdsC
import Derived.Test.YtaeeheaghfehaaaDoorLibS
import Derived.Deep.DeepCutAuto
import Derived.LaidMore
namespace Go.Proofs.YtaeeheaghfehaaaDoor.idsOthers
open Go Go.RowKit

def L2 : List (String × DataW Unit × Nat) := [("tableau/api.ErrArg", Rows.laid_tableau_api_ErrArg, 0), ("tableau/api.ErrObject", Rows.laid_tableau_api_ErrObject, 4)]

theorem e2_of {W : World} (h : laidMetH Tryd.prog (L2.map fun x => (x.1, x.2.1)) W) : ∃ es, E2 W es := by
  rw [MakeChecks.laidMetH_plain _ _ _ (by kernel_rfl)] at h
  obtain ⟨es, he⟩ := errs_of_laid L2 (fun x hx => by
    simp only [L2, List.mem_cons, List.not_mem_nil, or_false] at hx
    rcases hx with rfl | rfl
    all_goals exact ⟨by kernel_rfl, by kernel_rfl, _, rfl⟩) h
  match es, he with
  | [a, o], he => exact ⟨[a, a, a, a, o], (he.each 0 _ a rfl rfl).1, (he.each 1 _ o rfl rfl).1⟩
  | [], he => cases he.len
  | [_], he => cases he.len
  | _ :: _ :: _ :: _, he => cases he.len

/-- What stays from round to round. -/
structure Stay (w wr : World) (k : Int) : Prop where
  tb : ∃ s, Tb w.heap.size wr (w.heap.size + 1) w.heap.size s ∧ s k = (9, 7)
  bel : Below w.heap.size w wr

theorem Stay.on {w wr u : World} {k : Int} (h : Stay w wr k) (hb : Below wr.heap.size wr u) : Stay w u k := by
  obtain ⟨s, h1, h2⟩ := h.tb
  exact ⟨⟨s, h1.on hb, h2⟩, Below.on h.bel hb⟩

theorem Stay.kp {w wr u : World} {k : Int} (h : Stay w wr k) {s : Int → Int × Int} (ht : Tb w.heap.size u (w.heap.size + 1) w.heap.size s) (hs : s k = (9, 7)) (hk : Kp [w.heap.size] wr u) : Stay w u k :=
  ⟨⟨s, ht, hs⟩, h.bel.trans (hk.below h.bel.size (fun j hj => by simp only [List.mem_cons, List.not_mem_nil, or_false] at hj; omega))⟩

theorem Stay.drop {w wr : World} {k : Int} (h : Stay w wr k) (es : List Addr) (hE : E2 w es) (id : Int) (hi : -9223372036854775808 ≤ id ∧ id ≤ 9223372036854775807) (hne : id ≠ k) :
    Calls Tryd.prog 10 #[.pointer (some ⟨w.heap.size + 1, 0, none⟩), .int .i64 id] wr fun e w' => (∃ v, e = .returned v) ∧ Stay w w' k := by
  obtain ⟨s, h1, h2⟩ := h.tb
  refine (drop_any _ wr es (hE.below h.bel) _ _ s h1 id hi).mono ?_
  rintro e w' ⟨rfl, ht, hk⟩
  refine ⟨⟨_, rfl⟩, h.kp ht ?_ hk⟩
  unfold dropS
  split
  · rw [upd_other s (Ne.symm hne)]; exact h2
  · exact h2

theorem Stay.add {w wr : World} {k : Int} (h : Stay w wr k) (es : List Addr) (hE : E2 w es) (id f v : Int) (hi : -9223372036854775808 ≤ id ∧ id ≤ 9223372036854775807) (hne : id ≠ k) :
    Calls Tryd.prog 14 #[.pointer (some ⟨w.heap.size + 1, 0, none⟩), .int .i64 id, .int .i64 f, .int .i64 v] wr fun e w' => (∃ v, e = .returned v) ∧ Stay w w' k := by
  obtain ⟨s, h1, h2⟩ := h.tb
  refine (add_any _ wr es (hE.below h.bel) _ _ s h1 id f v hi).mono ?_
  rintro e w' ⟨rfl, ht, hk⟩
  refine ⟨⟨_, rfl⟩, h.kp ht ?_ hk⟩
  unfold addS
  split
  · rw [upd_other s (Ne.symm hne)]; exact h2
  · exact h2

set_option maxRecDepth 100000 in
set_option maxHeartbeats 1000000 in
theorem core (a : Option Addr) (n c : Nat) (l : List (List Int)) (id : Int) (w : World) (hr : RdN 4 w a n c l) (hid0 : -9223372036854775808 ≤ id ∧ id ≤ 9223372036854775807) (es : List Addr) (hE : E2 w es) :
    Calls Tryd.prog 5 #[.slice a n c, .int .i64 id] w fun e w' => e = .returned (.bool true) ∧ Below w.heap.size w w' := by
  have HN := hid (new_any w)
  have HE := hid hE
  have HR := hid hr
  have hn : n ≤ 9223372036854775807 := by have := Nat.le_trans hr.le hr.max; simp only [maxLen] at this; omega
  have HP := hid (fun u => place_any id 254 hid0 (by omega) (by omega) u)
  obtain ⟨d, hd⟩ : ∃ d, d = plc id 254 := ⟨_, rfl⟩
  have hdl : d < 254 := by rw [hd]; exact plc_lt id 254 (by omega)
  rw [← hd] at HP
  clear hr hE hd
  go_enter Tryd.func5, Tryd.ntmps5
  go_wp2_with fail
  refine HN.out.mono ?_
  rintro e w1 ⟨rfl, hb1, hT1⟩
  have hT1 := hT1 w.heap.size (Nat.le_refl _)
  have HB1 := hid hb1
  have HT1 := hid hT1
  clear HN hb1 hT1
  go_wp2_with fail
  refine (HP.out w1).mono ?_
  rintro e w1' ⟨rfl, rfl⟩
  have HA := hid (add_any _ w1' es (HE.out.below HB1.out) _ _ _ HT1.out (2 + d) 9 7 (by omega))
  have h0 : addE s0 (2 + d) 9 7 = 0 := by
    have : (s0 (2 + d)).1 = 0 := by rw [s0, upd_other _ (by omega)]
    rw [addE, if_neg (by omega), if_neg (by omega)]
  go_wp2_with fail
  refine HA.out.mono ?_
  rintro e w2 ⟨rfl, hT2, hk2⟩
  rw [addS, h0, if_pos rfl] at hT2
  rw [h0, show erv es 0 = Value.nilIface from rfl]
  have HS : Hid (Stay w w2 (2 + d)) := ⟨⟨_, hT2, upd_same _ _ _⟩, HB1.out.trans (hk2.below HB1.out.size (fun k hk => by simp only [List.mem_cons, List.not_mem_nil, or_false] at hk; omega))⟩
  clear HA hT2 hk2 h0 HT1 HB1 HP
  go_wp2
  go_loopw [7] (fun i wr => ∃ j : Nat, i = .int .i64 j ∧ Stay w wr (2 + d) ∧ j ≤ 60) (fun i _ => 60 - (numOf i).toNat)
  case atStart => exact ⟨0, rfl, HS.out, by omega⟩
  case round =>
    obtain ⟨j, rfl, hS, hj⟩ := hrel
    have HS2 := hid hS
    clear hS HS
    by_cases hgo : j < n ∧ j < 60
    · have e1 : decide ((j : Int) < n) = true := decide_eq_true (by omega)
      have e2 : decide ((j : Int) < 60) = true := decide_eq_true (by omega)
      obtain ⟨b0, off, y, rfl, hb0, hy, hy4, hyw, hyc⟩ := HR.out.at_ (by omega) j hgo.1
      match y, hy4 with
      | [kd, i0, f, v], _ =>
        have c0 := hyc 0 kd rfl
        have c1 := hyc 1 i0 rfl
        have c2 := hyc 2 f rfl
        have c3 := hyc 3 v rfl
        rw [← HS2.out.bel.cell hb0] at c0 c1 c2 c3
        simp only [Nat.add_zero, ← Nat.add_assoc] at c0 c1 c2 c3
        have w0 := hyw kd (by simp)
        have w1 := hyw i0 (by simp)
        clear hyc hyw hy
        have HS3 : Hid (∀ (o : Obj) , Stay w (wr.alloc o) (2 + d)) := fun o => HS2.out.on ((Below.refl _ _).alloc (Nat.le_refl _) _)
        by_cases hk : i0 = 2 + d
        · subst hk
          by_cases h2 : kd.tmod 2 = 0
          · have e3 : decide (kd.tmod 2 = 0) = true := decide_eq_true h2
            go_wp2_with fail
            refine (Stay.drop (HS3.out _) es HE.out (2 + d + 1) (by omega) (by omega)).mono ?_
            rintro e w5 ⟨⟨v5, rfl⟩, hS5⟩
            go_wp2
            go_roundw
            case rel => exact ⟨j + 1, by go_num, hS5, by omega⟩
            case measure => simp [numOf]; omega
          · have e3 : decide (kd.tmod 2 = 0) = false := decide_eq_false h2
            go_wp2_with fail
            refine (Stay.add (HS3.out _) es HE.out (2 + d + 1) f v (by omega) (by omega)).mono ?_
            rintro e w5 ⟨⟨v5, rfl⟩, hS5⟩
            go_wp2
            go_roundw
            case rel => exact ⟨j + 1, by go_num, hS5, by omega⟩
            case measure => simp [numOf]; omega
        · have e4 : decide (i0 = 2 + (d : Int)) = false := decide_eq_false hk
          by_cases h2 : kd.tmod 2 = 0
          · have e3 : decide (kd.tmod 2 = 0) = true := decide_eq_true h2
            go_wp2_with fail
            refine (Stay.drop (HS3.out _) es HE.out i0 w1 hk).mono ?_
            rintro e w5 ⟨⟨v5, rfl⟩, hS5⟩
            go_wp2
            go_roundw
            case rel => exact ⟨j + 1, by go_num, hS5, by omega⟩
            case measure => simp [numOf]; omega
          · have e3 : decide (kd.tmod 2 = 0) = false := decide_eq_false h2
            go_wp2_with fail
            refine (Stay.add (HS3.out _) es HE.out i0 f v w1 hk).mono ?_
            rintro e w5 ⟨⟨v5, rfl⟩, hS5⟩
            go_wp2
            go_roundw
            case rel => exact ⟨j + 1, by go_num, hS5, by omega⟩
            case measure => simp [numOf]; omega
    · obtain ⟨s, hT, hs⟩ := HS2.out.tb
      have hF := face_any _ wr _ _ s hT (2 + d) (by omega)
      have hV := version_any _ wr _ _ s hT (2 + d) (by omega)
      have hW := want_any _ wr es (HE.out.below HS2.out.bel) _ _ s hT (2 + d) 9 (by omega)
      rw [show wantE s (2 + d) 9 = 0 by rw [wantE, hs]; decide, show erv es 0 = Value.nilIface from rfl] at hW
      rw [hs] at hF hV
      have HF := hid hF
      have HV := hid hV
      have HW := hid hW
      have HA := hid (fun u hu => awake6_any u es (HE.out.below (Below.on HS2.out.bel hu)))
      have HB := hid (fun u hu => Below.on (w2 := u) HS2.out.bel hu)
      clear hF hV hW hT hs HS2
      by_cases h1 : j < n
      · have e1 : decide ((j : Int) < n) = true := decide_eq_true (by omega)
        have e2 : decide ((j : Int) < 60) = false := decide_eq_false (by omega)
        go_wp2_with fail
        refine HF.out.mono ?_
        rintro e w5 ⟨rfl, rfl⟩
        go_wp2_with fail
        refine HV.out.mono ?_
        rintro e w6 ⟨rfl, rfl⟩
        go_wp2_with fail
        refine HW.out.mono ?_
        rintro e w7 ⟨rfl, hb7⟩
        go_wp2_with fail
        refine (HA.out _ hb7).mono ?_
        rintro e w8 ⟨rfl, hb8⟩
        go_wp2
        go_ret
        exact ⟨rfl, HB.out _ (Below.on hb7 hb8)⟩
      · have e1 : decide ((j : Int) < n) = false := decide_eq_false (by omega)
        go_wp2_with fail
        refine HF.out.mono ?_
        rintro e w5 ⟨rfl, rfl⟩
        go_wp2_with fail
        refine HV.out.mono ?_
        rintro e w6 ⟨rfl, rfl⟩
        go_wp2_with fail
        refine HW.out.mono ?_
        rintro e w7 ⟨rfl, hb7⟩
        go_wp2_with fail
        refine (HA.out _ hb7).mono ?_
        rintro e w8 ⟨rfl, hb8⟩
        go_wp2
        go_ret
        exact ⟨rfl, HB.out _ (Below.on hb7 hb8)⟩

theorem walk (a : Option Addr) (n c : Nat) (l : List (List Int)) (id : Int) (w : World) (hr : RdN 4 w a n c l) (hi : (Lit.int .i64 id).wf = true) (hL : laidMetH Tryd.prog Rows.idsOthersRow.laid w) :
    Calls Tryd.prog 5 #[.slice a n c, .int .i64 id] w fun e w' => e = .returned (.bool true) ∧ Below w.heap.size w w' := by
  obtain ⟨es, hE⟩ := e2_of hL
  exact core a n c l id w hr (by simpa [Lit.wf, IntKind.min, IntKind.max, IntKind.signed, IntKind.bits] using hi) es hE
end Go.Proofs.YtaeeheaghfehaaaDoor.idsOthers
