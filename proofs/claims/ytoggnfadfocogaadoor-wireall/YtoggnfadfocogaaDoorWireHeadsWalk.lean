/- WireHeads' walk: for every four numbers and every bytes the law returns true; nothing that was there is turned. -/
import Derived.Test.YtoggnfadfocogaaDoorWireF
import Derived.Test.YtoggnfadfocogaaDoorLibC
import Derived.Test.YtoggnfadfocogaaDoorRefA
import Derived.Test.YtoggnfadfocogaaDoorKindB
namespace Go.Proofs.YtoggnfadfocogaaDoor.wireHeads
open Go Go.RowKit

/-- The head. -/
def hd (v z p : Nat) : List UInt8 := le4 v ++ le4 (z * 65536 + p)

theorem hd_length (v z p : Nat) : (hd v z p).length = 8 := rfl

theorem rd_take {w : World} {a : Option Addr} {n c : Nat} {l : List UInt8} (h : Rd w a n c l) (k : Nat) (hk : k ≤ n) : Rd w a k c (l.take k) :=
  ⟨by rw [List.length_take, h.len]; omega, by have := h.le; omega, h.max, h.hnil, fun x hx j u hu => h.cells x hx j u (by
    rw [bc, List.getElem?_map, List.getElem?_take] at hu
    split at hu
    · rw [bc, List.getElem?_map]; exact hu
    · cases hu)⟩

theorem num_lo (v z p : Nat) (l : List UInt8) (hv : v < 4294967296) : num4 (hd v z p ++ l) 0 = v := by
  have := num4_at [] (le4 (z * 65536 + p) ++ l) v hv
  rw [List.nil_append, ← List.append_assoc] at this
  exact this
theorem num_hi (v z p : Nat) (l : List UInt8) (h : z * 65536 + p < 4294967296) : num4 (hd v z p ++ l) 4 = z * 65536 + p := by
  have := num4_at (le4 v) l (z * 65536 + p) h
  rw [← List.append_assoc] at this
  exact this

theorem hd_at (v z p : Nat) (l : List UInt8) (hv : v < 4294967296) (hz : z < 65536) (hp : p < 65536) :
    ((z < 8 ∨ z % 4 ≠ 0) → hdE (hd v z p ++ l) = 3 ∧ hdO (hd v z p ++ l) = 0 ∧ hdP (hd v z p ++ l) = 0 ∧ hdS (hd v z p ++ l) = 0) ∧
    (¬ (z < 8 ∨ z % 4 ≠ 0) → 4096 < z → hdE (hd v z p ++ l) = 4 ∧ hdO (hd v z p ++ l) = 0 ∧ hdP (hd v z p ++ l) = 0 ∧ hdS (hd v z p ++ l) = 0) ∧
    (¬ (z < 8 ∨ z % 4 ≠ 0) → ¬ 4096 < z → hdE (hd v z p ++ l) = 0 ∧ hdO (hd v z p ++ l) = v ∧ hdP (hd v z p ++ l) = p ∧ hdS (hd v z p ++ l) = z) := by
  have h0 := num_lo v z p l hv
  have h4 := num_hi v z p l (by omega)
  have hZ : hdZ (hd v z p ++ l) = z := by rw [hdZ, h4]; omega
  have hl : ¬ (hd v z p ++ l).length < 8 := by rw [List.length_append, hd_length]; omega
  refine ⟨fun h => ?_, fun h g => ?_, fun h g => ?_⟩
  · have e : hdE (hd v z p ++ l) = 3 := by rw [hdE, if_neg hl, hZ, if_pos h]
    exact ⟨e, by rw [hdO, e]; rfl, by rw [hdP, e]; rfl, by rw [hdS, e]; rfl⟩
  · have e : hdE (hd v z p ++ l) = 4 := by rw [hdE, if_neg hl, hZ, if_neg h, if_pos g]
    exact ⟨e, by rw [hdO, e]; rfl, by rw [hdP, e]; rfl, by rw [hdS, e]; rfl⟩
  · have e : hdE (hd v z p ++ l) = 0 := by rw [hdE, if_neg hl, hZ, if_neg h, if_neg g]
    exact ⟨e, by rw [hdO, if_pos e, h0], by rw [hdP, if_pos e, h4]; omega, by rw [hdS, if_pos e, hZ]⟩

set_option maxRecDepth 100000 in
set_option maxHeartbeats 2000000 in
theorem core (v p z : Nat) (hv : v < 4294967296) (hp : p < 65536) (hz : z < 65536) (a : Option Addr) (n c : Nat) (l : List UInt8) (w : World) (hr : Rd w a n c l) (hn : n ≤ 140737488351232) (es : List Addr) (hF : Errs w gerrs es) :
    Calls Tryd.prog 6 #[.int .u32 v, .int .u16 p, .int .u16 z, .slice a n c] w fun e w' => e = .returned (.bool true) ∧ Below w.heap.size w w' := by
  obtain ⟨i0, hi, hz0, hz1, hz2⟩ := info_parts infoU8
  have HR : Hid (Rd w a n c l) := hr
  have HF : Hid (Errs w gerrs es) := hF
  have HP1 : Hid (Calls Tryd.prog 24 #[.int .u32 v] w fun e w' => ∃ r, e = .returned r ∧ w'.ownsRow w.heap.size 5 1 r 4 (bc (le4 v)) ∧ Below w.heap.size w w') := rPut_any w v hv
  clear hr hF
  go_enter Tryd.func6, Tryd.ntmps6
  go_wp2_with fail
  refine HP1.out.mono ?_
  rintro e w1 ⟨r1, rfl, o1, b1⟩
  have O1 : Hid _ := o1
  clear o1 HP1
  have HP2 : Hid (Calls Tryd.prog 24 #[.int .u32 ((z : Int) * 65536 + p)] w1 fun e w' => ∃ r, e = .returned r ∧ w'.ownsRow w1.heap.size 5 1 r 4 (bc (le4 (z * 65536 + p))) ∧ Below w1.heap.size w1 w') := by
    have h := rPut_any w1 (z * 65536 + p) (by omega)
    rw [show ((z * 65536 + p : Nat) : Int) = (z : Int) * 65536 + p by omega] at h
    exact h
  go_wp2_with fail
  refine HP2.out.mono ?_
  rintro e w2 ⟨r2, rfl, o2, b2⟩
  obtain ⟨a2, c2, rfl, q2, _⟩ := rd_of_owns o2
  have ho2 := ownsRow_below O1.out b2
  have hbw2 : Below w.heap.size w w2 := Below.on b1 b2
  have HS : Hid (Src Tryd.prog 1 27 (.slice a2 4 c2) 4 (bc (le4 (z * 65536 + p))) w2) := q2.src Tryd.underlying27
  have HG : Hid (∀ v' u, u.ownsRow w.heap.size 5 1 v' (4 + 4) (bc (le4 v) ++ bc (le4 (z * 65536 + p))) → w2.grownBy u r1.ownBlock → u.ownsRow w.heap.size 5 1 v' 8 (bc (hd v z p)) ∧ Below w.heap.size w u) := fun v' u o3 g3 => by
    have hb3 : Below w.heap.size w u := hbw2.grown g3 hbw2.size (row_lt ho2)
    rw [← bc_append] at o3
    exact ⟨o3, hb3⟩
  clear o2 q2 b2 b1 HP2 O1
  have HG2 : Hid (∀ u, Below w.heap.size w u → Src Tryd.prog 1 27 (.slice a n c) n (bc l) u) := fun u hu => (HR.out.below hu (rd_low HR.out)).src Tryd.underlying27
  have HG3 : Hid (∀ w3 v3 v' u, Below w.heap.size w w3 → w3.ownsRow w.heap.size 5 1 v3 8 (bc (hd v z p)) → u.ownsRow w.heap.size 5 1 v' (8 + n) (bc (hd v z p) ++ bc l) → w3.grownBy u v3.ownBlock → ∃ a4 c4, v' = .slice a4 (8 + n) c4 ∧ Rd u a4 (8 + n) c4 (hd v z p ++ l) ∧ Below w.heap.size w u) := fun w3 v3 v' u b3 o3 o4 g4 => by
    rw [← bc_append] at o4
    obtain ⟨a4, c4, rfl, q4, _⟩ := rd_of_owns o4
    exact ⟨a4, c4, rfl, q4, b3.grown g4 b3.size (row_lt o3)⟩
  go_wp2_with (first | (at_builtin; refine wpList_append_own_src _ rfl (.tmp 20) (.tmp 27) 27 27 rfl w.heap.size 5 i0 (.int .u8 0) 1 1 Tryd.underlying27 hi hz0 hz1 hz2 rfl _ _ _ rfl ho2 _ _ _ rfl HS.out (by simp only [maxLen]; omega) (fits1 (by omega)) hbw2.size ?_; intro v3 w3 o3 g3; obtain ⟨ho3, hbw3⟩ := HG.out _ _ o3 g3; clear HG o3 g3 HS ho2 hbw2) | (at_builtin; refine wpList_append_own_keeps _ rfl (.tmp 30) (.tmp 31) 27 27 rfl w.heap.size 5 i0 (.int .u8 0) 1 1 Tryd.underlying27 hi hz0 hz1 hz2 rfl _ _ _ rfl ho3 _ _ _ rfl (HG2.out _ hbw3) (by simp only [maxLen]; omega) (fits1 (by omega)) hbw3.size ?_; intro v4 w4 o4 g4 k4; obtain ⟨a4, c4, rfl, q4, b4⟩ := HG3.out _ _ _ _ hbw3 ho3 o4 g4; have Q4 : Hid _ := q4; have K4 : Hid (w4.ownsRow w.heap.size 5 1 v3 8 (bc (hd v z p))) := k4; clear HG2 HG3 o4 g4 ho3 hbw3 q4 k4))
  obtain ⟨a3, c3, hv3, q3, _⟩ := rd_of_owns K4.out
  subst hv3
  obtain ⟨g3, off3, rfl, _, _⟩ := q3.plain (by decide)
  have Q3 : Hid (Rd w4 (some ⟨g3, off3, none⟩) 7 c3 ((hd v z p).take 7)) := rd_take q3 7 (by decide)
  have hc3 := q3.le
  clear q3 K4
  have HK : Hid (∀ u (k : Nat), Below w.heap.size w u → k ≤ 16 → Calls Tryd.prog 19 #[erv es k] u fun e w' => e = .returned (.int .i64 k) ∧ Below w.heap.size w w') := fun u k hu hk => by
    refine (kind_erv u es (HF.out.below hu) k hk).mono ?_
    rintro e w' ⟨rfl, hb⟩
    exact ⟨rfl, Below.on hu hb⟩
  have HW : Hid (∀ u, Below w.heap.size w u → Calls Tryd.prog 10 #[] u fun e w' => e = .returned (.bool true) ∧ Below w.heap.size w w') := fun u hu => by
    refine (awake4_any u es ((E4.of HF.out rfl).below hu)).mono ?_
    rintro e w' ⟨rfl, hb⟩
    exact ⟨rfl, Below.on hu hb⟩
  have HH : Hid (Calls Tryd.prog 16 #[.slice a4 (8 + n) c4] w4 fun e w' => e = .returned (.tuple #[.int .i64 (hdO (hd v z p ++ l)), .int .i64 (hdP (hd v z p ++ l)), .int .i64 (hdS (hd v z p ++ l)), erv es (hdE (hd v z p ++ l))]) ∧ Below w4.heap.size w4 w') := by
    refine (head_any w4 a4 (8 + n) c4 _ Q4.out (by omega) es ((E4.of HF.out rfl).below b4)).mono ?_
    rintro e w' ⟨rfl, q, rfl⟩
    exact ⟨rfl, below_drewN (Below.refl _ _) q⟩
  have HT : Hid (∀ u, Below w4.heap.size w4 u → Calls Tryd.prog 16 #[.slice (some ⟨g3, off3, none⟩) 7 c3] u fun e w' => e = .returned (.tuple #[.int .i64 0, .int .i64 0, .int .i64 0, erv es 2]) ∧ Below w.heap.size w w') := fun u hu => by
    have hb := Below.on b4 hu
    refine (head_any u _ 7 c3 _ (Q3.out.below hu (rd_low Q3.out)) (by decide) es ((E4.of HF.out rfl).below hb)).mono ?_
    rintro e w' ⟨rfl, q, rfl⟩
    exact ⟨rfl, below_drewN hb q⟩
  obtain ⟨t1, t2, t3⟩ := hd_at v z p l hv hz hp
  clear Q3 Q4 HR HF
  by_cases h8 : z < 8
  · obtain ⟨f0, f1, f2, f3⟩ := t1 (.inl h8)
    rw [f0, f1, f2, f3] at HH
    have e1 : decide ((z : Int) < 8) = true := decide_eq_true (by omega)
    clear h8 t1 t2 t3 f0 f1 f2 f3
    go_wp2_with fail
    refine HH.out.mono ?_
    rintro e w5 ⟨rfl, hb5⟩
    have b5 := Below.on b4 hb5
    go_wp2_with fail
    refine (HK.out w5 3 b5 (by decide)).mono ?_
    rintro e w6 ⟨rfl, b6⟩
    go_wp2_with fail
    refine (HW.out w6 b6).mono ?_
    rintro e w7 ⟨rfl, b7⟩
    go_wp2
    go_ret
    exact ⟨rfl, b7⟩
  by_cases h4 : z % 4 ≠ 0
  · obtain ⟨f0, f1, f2, f3⟩ := t1 (.inr h4)
    rw [f0, f1, f2, f3] at HH
    have e1 : decide ((z : Int) < 8) = false := decide_eq_false (by omega)
    have e2 : ((z : Int) % 4 != 0) = true := by rw [bne_iff_ne]; omega
    clear h8 h4 t1 t2 t3 f0 f1 f2 f3
    go_wp2_with fail
    refine HH.out.mono ?_
    rintro e w5 ⟨rfl, hb5⟩
    have b5 := Below.on b4 hb5
    go_wp2_with fail
    refine (HK.out w5 3 b5 (by decide)).mono ?_
    rintro e w6 ⟨rfl, b6⟩
    go_wp2_with fail
    refine (HW.out w6 b6).mono ?_
    rintro e w7 ⟨rfl, b7⟩
    go_wp2
    go_ret
    exact ⟨rfl, b7⟩
  have hno : ¬ (z < 8 ∨ z % 4 ≠ 0) := fun h => h.elim h8 h4
  have e1 : decide ((z : Int) < 8) = false := decide_eq_false (by omega)
  have e2 : ((z : Int) % 4 != 0) = false := by rw [bne_eq_false_iff_eq]; omega
  by_cases hg : 4096 < z
  · obtain ⟨f0, f1, f2, f3⟩ := t2 hno hg
    rw [f0, f1, f2, f3] at HH
    have e3 : decide ((4096 : Int) < z) = true := decide_eq_true (by omega)
    clear h8 h4 hno hg t1 t2 t3 f0 f1 f2 f3
    go_wp2_with fail
    refine HH.out.mono ?_
    rintro e w5 ⟨rfl, hb5⟩
    have b5 := Below.on b4 hb5
    go_wp2_with fail
    refine (HK.out w5 4 b5 (by decide)).mono ?_
    rintro e w6 ⟨rfl, b6⟩
    go_wp2_with fail
    refine (HW.out w6 b6).mono ?_
    rintro e w7 ⟨rfl, b7⟩
    go_wp2
    go_ret
    exact ⟨rfl, b7⟩
  · obtain ⟨f0, f1, f2, f3⟩ := t3 hno hg
    rw [f0, f1, f2, f3] at HH
    have e3 : decide ((4096 : Int) < z) = false := decide_eq_false (by omega)
    clear h8 h4 hno hg t1 t2 t3 f0 f1 f2 f3
    have ez : erv es 0 = Value.nilIface := rfl
    go_wp2_with fail
    refine HH.out.mono ?_
    rintro e w5 ⟨rfl, hb5⟩
    go_wp2_with fail
    refine (HT.out w5 hb5).mono ?_
    rintro e w6 ⟨rfl, b6⟩
    go_wp2_with fail
    refine (HK.out w6 2 b6 (by decide)).mono ?_
    rintro e w7 ⟨rfl, b7⟩
    go_wp2_with fail
    refine (HW.out w7 b7).mono ?_
    rintro e w8 ⟨rfl, b8⟩
    go_wp2
    go_ret
    exact ⟨rfl, b8⟩

theorem walk (v p z : Int) (a : Option Addr) (n c : Nat) (zs : List Int) (w : World) (hv : (Lit.int .u32 v).wf = true) (hp : (Lit.int .u16 p).wf = true) (hz : (Lit.int .u16 z).wf = true) (hr : RdI .u8 w a n c zs) (hc : c * 1 ≤ 140737488351232) (hL : laidMetH Tryd.prog Rows.wireHeadsRow.laid w) :
    Calls Tryd.prog 6 #[.int .u32 v, .int .u16 p, .int .u16 z, .slice a n c] w fun e w' => e = .returned (.bool true) ∧ Below w.heap.size w w' := by
  obtain ⟨es, hF⟩ := errs16 hL
  obtain ⟨l, hr', _⟩ := hr.bytes
  have hle := hr.le
  have hv' : 0 ≤ v ∧ v ≤ 4294967295 := by simpa [Lit.wf, IntKind.min, IntKind.max, IntKind.signed, IntKind.bits] using hv
  have hp' : 0 ≤ p ∧ p ≤ 65535 := by simpa [Lit.wf, IntKind.min, IntKind.max, IntKind.signed, IntKind.bits] using hp
  have hz' : 0 ≤ z ∧ z ≤ 65535 := by simpa [Lit.wf, IntKind.min, IntKind.max, IntKind.signed, IntKind.bits] using hz
  obtain ⟨v, rfl⟩ := Int.eq_ofNat_of_zero_le hv'.1
  obtain ⟨p, rfl⟩ := Int.eq_ofNat_of_zero_le hp'.1
  obtain ⟨z, rfl⟩ := Int.eq_ofNat_of_zero_le hz'.1
  exact core v p z (by omega) (by omega) (by omega) a n c l w hr' (by omega) es hF
end Go.Proofs.YtoggnfadfocogaaDoor.wireHeads
