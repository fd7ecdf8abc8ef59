/- StackRounds: for every slice of numbers the call returns true; nothing that was there has turned. -/
import Derived.Test.YtfedcpnnmkkpaaaDoorStkD
import Derived.Test.YtfedcpnnmkkpaaaDoorLibP
import Derived.LaidMore
import Derived.Deep.CutBlock
import Derived.Deep.DeepCutAuto
namespace Go.Proofs.YtfedcpnnmkkpaaaDoor.stackRounds
open Go Go.RowKit

/-- Going down from r[j] one comes to r[j + 1], and from the last one to the first one again. -/
theorem down_at {l : List Int} (hn : l.Nodup) {j : Nat} {x : Int} (h : l.reverse[j]? = some x) : nxt l x = (l.reverse[j + 1]?).getD (topZ l) := by
  have hr : l.reverse.Nodup := (List.reverse_perm l).nodup_iff.2 hn
  rw [nxt]
  cases h2 : l.reverse[j + 1]? with
  | some y => rw [nx_at hr h h2]
  | none =>
    rw [nx_last hr h (by
      have := (List.getElem?_eq_some_iff.1 h).1
      have := List.getElem?_eq_none_iff.1 h2
      omega)]

theorem wfi {z : Int} (h : (Lit.int .i64 z).wf = true) : -9223372036854775808 ≤ z ∧ z ≤ 9223372036854775807 := by simpa [Lit.wf, IntKind.min, IntKind.max, IntKind.signed, IntKind.bits] using h

set_option maxRecDepth 100000 in
set_option maxHeartbeats 2000000 in
theorem core (a : Option Addr) (n c : Nat) (l : List Int) (hz : ∀ z ∈ l, (Lit.int .i64 z).wf = true) (w : World) (h : Rz w a n c l) (q : Addr) (hp : Pl w q) :
    Calls Tryd.prog 4 #[.slice a n c] w fun e w' => e = .returned (.bool true) ∧ Below w.heap.size w w' := by
  have hs := h.small
  have HP := hid hp
  have HR := hid h
  have HZ := hid hz
  clear hp h hz
  go_enter Tryd.func4, Tryd.ntmps4
  go_wp2_with fail
  refine (kwnew w).mono ?_
  rintro e w1 ⟨rfl, h1⟩
  generalize w.heap.size = g at *
  have H1 := hid h1
  clear h1
  go_upto_block 0 with fail
  go_cut [4] (fun _ wc => ∃ m : List Int, Kw w wc g m ∧ m.Nodup)
  case first =>
    go_wp2
    go_loopw [4] (fun i wr => ∃ (j : Nat) (m : List Int), i = .int .i64 j ∧ j ≤ n ∧ j ≤ 40 ∧ Kw w wr g m ∧ m.Nodup ∧ m.length ≤ j) (fun i _ => n - (numOf i).toNat)
    case atStart => exact ⟨0, [], rfl, by omega, by omega, H1.out, List.nodup_nil, by simp⟩
    case round =>
      obtain ⟨j, m, rfl, hj, hj40, hk, hnd, hml⟩ := hrel
      clear H1
      have HND := hid hnd
      by_cases hgo : j < n ∧ j < 40
      · obtain ⟨hgo1, hgo2⟩ := hgo
        have e1 : decide ((j : Int) < (n : Int)) = true := decide_eq_true (by omega)
        have e2 : decide ((j : Int) < 40) = true := decide_eq_true (by omega)
        have e3 : (j : Int) < (n : Int) := by omega
        obtain ⟨bl, off, x, rfl, hbl, hx, c0⟩ := (HR.out.on hk.bel).at_ hgo1
        have CP := hid (place_any x 20 (wfi (HZ.out x (List.mem_of_getElem? hx))) (by omega) (by omega))
        have hv := plc_lt x 20 (by omega)
        obtain ⟨v, hv'⟩ : ∃ v, v = plc x 20 := ⟨_, rfl⟩
        rw [← hv'] at CP hv
        have HK := hid (hk.raise (by omega) (1 + (v : Int)) HP.out)
        have hrl := rse_length m (1 + (v : Int))
        clear hk hx hv' hnd
        go_wp2_with fail
        refine (CP.out _).mono ?_
        rintro e u ⟨rfl, rfl⟩
        clear CP
        go_wp2_with fail
        refine HK.out.mono ?_
        rintro e w2 ⟨⟨r, rfl⟩, hk2, -⟩
        have HK2 := hid hk2
        clear hk2 HK c0
        go_wp2
        go_roundw
        case rel => exact ⟨j + 1, _, by go_num, by omega, by omega, HK2.out, rse_nodup HND.out, by omega⟩
        case measure => simp [numOf]; omega
      · have HM : Hid (∃ m : List Int, Kw w wr g m ∧ m.Nodup) := ⟨m, hk, hnd⟩
        clear hk hnd HND
        by_cases h1 : j < n
        · have e1 : decide ((j : Int) < (n : Int)) = true := decide_eq_true (by omega)
          have e2 : decide ((j : Int) < 40) = false := decide_eq_false (by omega)
          go_wp2
          go_meet
          exact HM.out
        · have e1 : decide ((j : Int) < (n : Int)) = false := decide_eq_false (by omega)
          go_wp2
          go_meet
          exact HM.out
  case rest =>
    obtain ⟨m, hk, hnd⟩ := hcut
    have HK := hid hk
    have HND := hid hnd
    have hl := hk.len
    clear hk hnd H1
    go_wp2_with fail
    refine HK.out.all.mono ?_
    rintro e w2 ⟨a2, c2, rfl, hr2, hk2, -⟩
    have HK2 := hid hk2
    have HR2 := hid hr2
    clear hk2 hr2 HK
    go_wp2_with fail
    refine HK2.out.top.mono ?_
    rintro e w3 ⟨rfl, hk3, hb3⟩
    have HK3 := hid hk3
    have HR3 := hid (HR2.out.on hb3)
    have hs3 := HR2.out.small
    clear hk3 hb3 HK2 HR2
    obtain ⟨N, hN⟩ : ∃ N, N = m.length := ⟨_, rfl⟩
    have HN := hid hN
    rw [← hN] at HR3 hl hs3 ⊢
    clear hN
    have HT : Hid ((m.reverse[0]?).getD (topZ m) = topZ m) := by
      rw [Hid, topZ]
      cases m.reverse[0]? <;> rfl
    go_wp2
    go_loopw [6, 7] (fun x i wr => ∃ k : Nat, i = .int .i64 ((N : Int) - 1 - k) ∧ k ≤ N ∧ x = .int .i64 ((m.reverse[k]?).getD (topZ m)) ∧ Kw w wr g m ∧ Rz wr a2 N c2 m) (fun _ i _ => (numOf i + 1).toNat)
    case atStart => exact ⟨0, by simp, by omega, by rw [HT.out], HK3.out, HR3.out⟩
    case round =>
      obtain ⟨k, rfl, hk, rfl, hkw, hrz⟩ := hrel
      clear HK3 HR3
      by_cases hgo : k < N
      · obtain ⟨x, hx⟩ : ∃ x, m.reverse[k]? = some x := ⟨_, List.getElem?_eq_getElem (by rw [List.length_reverse, ← HN.out]; exact hgo)⟩
        obtain ⟨j, hj'⟩ : ∃ j : Nat, j = N - 1 - k := ⟨_, rfl⟩
        have ej : (N : Int) - 1 - k = j := by omega
        have ej2 : (j : Int) - 1 = (N : Int) - 1 - ((k + 1 : Nat) : Int) := by omega
        have hjN : j < N := by omega
        have e1 : decide ((0 : Int) ≤ j) = true := decide_eq_true (by omega)
        have e2 : (j : Int) < N := by omega
        have HX := hid (down_at HND.out hx)
        obtain ⟨bl, off, y, rfl, hbl, hy, c0⟩ := hrz.at_ hjN
        obtain rfl : y = x := by
          rw [List.getElem?_reverse (by rw [← HN.out]; exact hgo), ← HN.out, ← hj', hy] at hx
          exact Option.some.inj hx
        have HNX := hid (hkw.next y)
        have HR4 := hid hrz
        rw [hx, ej, Option.getD_some]
        have HE2 := hid ej2
        clear hkw hrz hx hy hj' ej ej2 HT
        go_wp2_with fail
        refine HNX.out.mono ?_
        rintro e w4 ⟨rfl, hk4, hb4⟩
        have HK4 := hid hk4
        have HR5 := hid (HR4.out.on hb4)
        clear hk4 hb4 HNX HR4 c0
        rw [HX.out]
        go_wp2
        go_roundw
        case rel => exact ⟨k + 1, by rw [← HE2.out], by omega, rfl, HK4.out, HR5.out⟩
        case measure => simp [numOf]
      · obtain rfl : k = N := by omega
        have e1 : decide ((0 : Int) ≤ (k : Int) - 1 - k) = false := decide_eq_false (by omega)
        have hx : m.reverse[k]? = none := List.getElem?_eq_none_iff.2 (by rw [List.length_reverse, ← HN.out]; exact Nat.le_refl _)
        rw [hx, Option.getD_none]
        have HK4 := hid hkw
        clear hkw hrz hx HT
        go_wp2_with fail
        refine HK4.out.top.mono ?_
        rintro e w4 ⟨rfl, hk4, hb4⟩
        have HK5 := hid hk4
        have HA := hid (kawake_any w4 (HP.out.on hk4.bel))
        clear hk4 hb4 HK4
        go_wp2_with fail
        refine HA.out.mono ?_
        rintro e w5 ⟨rfl, hb5⟩
        have HB5 := hid (Below.on HK5.out.bel hb5)
        clear hb5 HA
        go_wp2
        go_ret
        exact ⟨rfl, HB5.out⟩
theorem walk (a : Option Addr) (n c : Nat) (l : List Int) (w : World) (hr : RdI .i64 w a n c l) (_ : c * 8 ≤ 140737488351232) (hL : laidMetH Tryd.prog Rows.stackRoundsRow.laid w) :
    Calls Tryd.prog 4 #[.slice a n c] w fun e w' => e = .returned (.bool true) ∧ Below w.heap.size w w' := by
  obtain ⟨q, hp⟩ := plone_of hL
  exact core a n c l hr.wf w (rz_of_rdi hr) q hp
end Go.Proofs.YtfedcpnnmkkpaaaDoor.stackRounds
