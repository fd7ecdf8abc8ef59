/- QueueRooms: for any two numbers the call returns true; nothing that was there has turned. -/
import Derived.Test.YtmcbbpcbebbjdaaDoorQuD
import Derived.Test.YtmcbbpcbebbjdaaDoorLibP
namespace Go.Proofs.YtmcbbpcbebbjdaaDoor.queueRooms
open Go Go.RowKit

theorem nil_erv (es : List Addr) (k : Nat) : ∃ a, erv es (k + 1) = .iface 67 (.pointer (some a)) := ⟨_, rfl⟩

theorem rd_made {w1 : World} {g n : Nat} (hg : w1.heap[g]? = some (.cells (bc (List.replicate n 0)).toArray 5 (0, 0))) (hn : n ≤ 65537) : Rd w1 (some ⟨g, 0, none⟩) n n (List.replicate n 0) :=
  rd_row hg n (List.length_replicate) (by simp only [maxLen]; omega)

set_option maxRecDepth 100000 in
set_option maxHeartbeats 2000000 in
theorem core (a0 a1 : Int) (w : World) (w0 : (Lit.int .i64 a0).wf = true) (w1 : (Lit.int .i64 a1).wf = true) (es : List Addr) (hE : Errs w gerrs es) :
    Calls Tryd.prog 5 #[.int .i64 a0, .int .i64 a1] w fun e w' => e = .returned (.bool true) ∧ Below w.heap.size w w' := by
  have HE := hid hE
  have i0 : -9223372036854775808 ≤ a0 ∧ a0 ≤ 9223372036854775807 := by simpa [Lit.wf, IntKind.min, IntKind.max, IntKind.signed, IntKind.bits] using w0
  have i1 : -9223372036854775808 ≤ a1 ∧ a1 ≤ 9223372036854775807 := by simpa [Lit.wf, IntKind.min, IntKind.max, IntKind.signed, IntKind.bits] using w1
  have P0 := hid (place_any a0 200 i0 (by omega) (by omega))
  have hm := plc_lt a0 200 (by omega)
  obtain ⟨m, hm'⟩ : ∃ m, m = plc a0 200 := ⟨_, rfl⟩
  rw [← hm'] at P0 hm
  have P1 := hid (place_any a1 (m + 1) i1 (by omega) (by omega))
  have ht := plc_lt a1 (m + 1) (by omega)
  obtain ⟨t, ht'⟩ : ∃ t, t = plc a1 (m + 1) := ⟨_, rfl⟩
  rw [← ht'] at P1 ht
  rw [show (((m + 1 : Nat)) : Int) = (m : Int) + 1 by omega] at P1
  clear hE w0 w1 i0 i1 hm' ht'
  go_enter Tryd.func5, Tryd.ntmps5
  go_wp2_with fail
  refine (P0.out w).mono ?_
  rintro e w1 ⟨rfl, rfl⟩
  go_wp2_with fail
  refine (P1.out w1).mono ?_
  rintro e w ⟨rfl, rfl⟩
  clear P0 P1
  go_wp2_with fail
  refine (qw_new w w (Below.refl _ _) m).mono ?_
  rintro e w1 ⟨rfl, hb1, hQ⟩
  rw [show qroom (m : Int) = m by unfold qroom; omega] at hQ
  obtain ⟨x1, hmk, hx1, hg1⟩ := qmake w1 m (by omega)
  have HP : Hid (Calls Tryd.prog 14 #[.pointer (some ⟨w.heap.size, 0, none⟩), .slice (some ⟨w1.heap.size, 0, none⟩) m m] x1 fun e w' => e = .returned .nilIface ∧ ∃ L : List UInt8, L.length = m ∧ Qw w w' w.heap.size m L false []) := by
    refine ((hQ.on hx1).put es HE.out _ m m _ (rd_made hg1 (by omega))).mono ?_
    rintro e w' ⟨rfl, h1, _⟩
    have e1 : putK m [] false (List.replicate m 0) = 0 := by simp [putK]
    have e2 : putC m [] false (List.replicate m 0) = false := by simp [putC]
    rw [e1]
    rw [e2] at h1
    exact ⟨rfl, _, by simp [putL], h1⟩
  clear hQ hx1 hg1
  go_wp2_with fail
  refine HP.out.mono ?_
  rintro e w2 ⟨rfl, L, hL, hQ⟩
  clear HP hmk
  have hLn := hQ.leng
  rw [hL] at hLn
  have HL := hid hLn
  clear hLn
  go_wp2_with fail
  refine HL.out.mono ?_
  rintro e w3 ⟨rfl, rfl⟩
  clear HL
  have HT := hid (hQ.take t)
  rw [show qtk L (t : Int) = t by unfold qtk; omega] at HT
  go_wp2_with fail
  refine HT.out.mono ?_
  rintro e w4 ⟨rfl, _, hQ4, _⟩
  clear HT hQ
  obtain ⟨x5, hmk, hx5, hg5⟩ := qmake w4 t (by omega)
  have HP : Hid (Calls Tryd.prog 14 #[.pointer (some ⟨w.heap.size, 0, none⟩), .slice (some ⟨w4.heap.size, 0, none⟩) t t] x5 fun e w' => e = .returned .nilIface ∧ ∃ L : List UInt8, L.length = m ∧ Qw w w' w.heap.size m L false []) := by
    refine ((hQ4.on hx5).put es HE.out _ t t _ (rd_made hg5 (by omega))).mono ?_
    rintro e w' ⟨rfl, h1, _⟩
    have hf : ¬ m - (L.drop t).length < (List.replicate t (0 : UInt8)).length := by rw [List.length_drop, List.length_replicate]; omega
    have e1 : putK m (L.drop t) false (List.replicate t 0) = 0 := by rw [putK, if_neg (by decide), if_neg hf]
    have e2 : putC m (L.drop t) false (List.replicate t 0) = false := by rw [putC, decide_eq_false hf]; rfl
    rw [e1]
    rw [e2] at h1
    refine ⟨rfl, _, ?_, h1⟩
    rw [putL, if_neg (by simp only [Bool.false_eq_true, false_or]; exact hf), List.length_append, List.length_drop, List.length_replicate]
    omega
  clear hQ4 hx5 hg5 hL
  go_wp2_with fail
  refine HP.out.mono ?_
  rintro e w6 ⟨rfl, L, hL, hQ⟩
  clear HP hmk
  have hLn := hQ.leng
  rw [hL] at hLn
  have HL := hid hLn
  clear hLn
  go_wp2_with fail
  refine HL.out.mono ?_
  rintro e w7 ⟨rfl, rfl⟩
  clear HL
  go_wp2_with fail
  refine hQ.closed.mono ?_
  rintro e w8 ⟨rfl, rfl⟩
  have HP : Hid (∀ fr, Calls Tryd.prog 14 #[.pointer (some ⟨w.heap.size, 0, none⟩), .slice (some ⟨w8.heap.size, 0, none⟩) 1 1] (w8.alloc (.cells #[.int .u8 1] 5 fr)) fun e w' => (∃ a, e = .returned (.iface 67 (.pointer (some a)))) ∧ Qw w w' w.heap.size m L true []) := fun fr => by
    have hb := (Below.refl w8.heap.size w8).alloc (Nat.le_refl _) (.cells #[.int .u8 1] 5 fr)
    refine ((hQ.on hb).put es HE.out _ 1 1 [1] (qrd_lit w8 [1] _ rfl _ _ (by decide))).mono ?_
    rintro e w' ⟨rfl, h1, _⟩
    have hf : m - L.length < [(1 : UInt8)].length := by rw [hL]; simp
    have e1 : putK m L false [1] = 14 := by rw [putK, if_neg (by decide), if_pos hf]
    have e2 : putC m L false [1] = true := by rw [putC, decide_eq_true hf]; rfl
    have e3 : putL m L false [1] = L := by rw [putL, if_pos (.inr hf)]
    rw [e2, e3] at h1
    rw [e1]
    exact ⟨⟨_, rfl⟩, h1⟩
  clear hQ
  go_wp2_with fail
  refine (HP.out _).mono ?_
  rintro e w9 ⟨⟨x, rfl⟩, hQ⟩
  clear HP
  go_wp2_with fail
  refine hQ.closed.mono ?_
  rintro e w10 ⟨rfl, rfl⟩
  have hLn := hQ.leng
  rw [hL] at hLn
  have HL := hid hLn
  clear hLn
  go_wp2_with fail
  refine HL.out.mono ?_
  rintro e w11 ⟨rfl, rfl⟩
  clear HL
  go_wp2_with fail
  refine (hQ.put es HE.out none 0 0 [] (Rd.nil _)).mono ?_
  rintro e w12 ⟨rfl, h1, _⟩
  rw [show putK m L true [] = 15 by simp [putK], show erv es 15 = .iface 67 (.pointer (some (es.getD 14 ⟨0, 0, none⟩))) from rfl]
  rw [show putL m L true [] = L by simp [putL], show putC m L true [] = true by simp [putC]] at h1
  clear hQ
  have HT := hid (h1.take ((m : Int) + 9))
  rw [show qtk L ((m : Int) + 9) = m by unfold qtk; omega] at HT
  go_wp2_with fail
  refine HT.out.mono ?_
  rintro e w13 ⟨rfl, _, hQ, _⟩
  clear HT h1
  rw [List.drop_of_length_le (by omega)] at hQ
  go_wp2_with fail
  refine hQ.leng.mono ?_
  rintro e w14 ⟨rfl, rfl⟩
  have HT := hid (hQ.take (-5))
  rw [show qtk [] (-5) = 0 by decide] at HT
  go_wp2_with fail
  refine HT.out.mono ?_
  rintro e w15 ⟨rfl, _, hQ5, _⟩
  clear HT hQ
  go_wp2_with fail
  refine (qawake_any w15 es (HE.out.below hQ5.bel)).mono ?_
  rintro e w16 ⟨rfl, hb⟩
  have HB := hid (Below.on hQ5.bel hb)
  clear hQ5 hb
  go_wp2
  go_ret
  exact ⟨rfl, HB.out⟩

theorem walk (a0 a1 : Int) (w : World) (w0 : (Lit.int .i64 a0).wf = true) (w1 : (Lit.int .i64 a1).wf = true) (hL : laidMetH Tryd.prog Rows.queueRoomsRow.laid w) :
    Calls Tryd.prog 5 #[.int .i64 a0, .int .i64 a1] w fun e w' => e = .returned (.bool true) ∧ Below w.heap.size w w' := by
  obtain ⟨es, hE⟩ := errs16 hL
  exact core a0 a1 w w0 w1 es hE
end Go.Proofs.YtmcbbpcbebbjdaaDoor.queueRooms
