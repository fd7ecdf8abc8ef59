/- ReaderStops' walk: for every bytes, every size and every pieces the law returns true; nothing that was there is turned. -/
import Derived.Test.YtfbebifbfpkdaaaDoorOpn5
import Derived.Deep.CutRange
import Derived.Deep.DeepCutAuto
namespace Go.Proofs.YtfbebifbfpkdaaaDoor.readerStops
open Go Go.RowKit

theorem bytes_big (w : World) (a : Option Addr) (n c : Nat) (b : List UInt8) (hr : Rd w a n c b) (hn : n ≤ 140737488351232) : Calls Tryd.prog 10 #[.slice a n c] w fun e w' => ∃ a' c', e = .returned (.slice a' n c') ∧ Rd w' a' n c' b ∧ Below w.heap.size w w' := by
  obtain ⟨i0, hi, hz0, hz1, hz2⟩ := info_parts infoU8
  have HS := hid (hr.src (P := Tryd.prog) Tryd.underlying26)
  clear hr
  go_enter Tryd.func10, Tryd.ntmps10
  go_wp2_with (at_builtin; refine wpList_append_own_src _ rfl (.const (.slice none 0 0)) (.tmp 3) 26 26 rfl w.heap.size 5 i0 (.int .u8 0) 1 1 Tryd.underlying26 hi hz0 hz1 hz2 rfl _ 0 [] rfl (World.ownsRow_nil _ _ _ _) _ _ _ rfl HS.out (by simp only [maxLen]; omega) (fits1 (by omega)) (Nat.le_refl _) ?_; intro v1 w1 o1 g1)
  rw [Nat.zero_add, List.nil_append] at o1
  obtain ⟨a1, k1, rfl, h1, h2⟩ := rd_of_owns o1
  go_wp2
  go_ret
  exact ⟨a1, k1, rfl, h1, (Below.refl _ _).grown g1 (Nat.le_refl _) (fun k hk => by cases hk)⟩

/-- A size that may be. -/
def Good (z : Nat) : Prop := 8 ≤ z ∧ z % 4 = 0 ∧ z ≤ 4096

instance (z : Nat) : Decidable (Good z) := by unfold Good; infer_instance

/-- The head that is none. -/
def hd (z : Nat) : List UInt8 := le4 1 ++ le4 (z * 65536)

theorem hd_bad (z : Nat) (hz : z < 65536) (h : ¬ Good z) : fE (hd z) = 3 ∨ fE (hd z) = 4 := by
  have h4 : num4 (hd z) 4 = z * 65536 := by
    have := num4_at (le4 1) [] (z * 65536) (by omega)
    rw [List.append_nil] at this
    exact this
  have hZ : hdZ (hd z) = z := by rw [hdZ, h4]; omega
  have hl : ¬ (hd z).length < 8 := by show ¬ 8 < 8; omega
  have e : hdE (hd z) = 3 ∨ hdE (hd z) = 4 := by
    rw [hdE, if_neg hl, hZ]
    by_cases h1 : z < 8 ∨ z % 4 ≠ 0
    · rw [if_pos h1]; exact .inl rfl
    · rw [if_neg h1]
      by_cases h2 : 4096 < z
      · rw [if_pos h2]; exact .inr rfl
      · exact absurd ⟨by omega, by omega, by omega⟩ h
  rw [fE, if_pos (by omega)]
  exact e

theorem fd0 (b : List UInt8) : fdM ⟨[], 0⟩ b = (tk b).1 ∧ fdE ⟨[], 0⟩ b = (tk b).2.2 ∧ fdS ⟨[], 0⟩ b = ⟨(tk b).2.1, (tk b).2.2⟩ := ⟨rfl, rfl, rfl⟩

theorem Rdr.on {base : Nat} {w w' : World} {p : Nat} {v : Value} {s : St} {es : List Addr} (h : Rdr base w p v s es) (hb : Below w.heap.size w w') : Rdr base w' p v s es := h.kept (kp_of_below hb []) (fun _ _ h => by cases h)

set_option maxRecDepth 100000 in
set_option maxHeartbeats 2000000 in
theorem core (a : Option Addr) (n c : Nat) (l : List UInt8) (z : Nat) (hz : z < 65536) (a2 : Option Addr) (n2 c2 : Nat) (L : List (List UInt8)) (w : World) (hr : Rd w a n c l) (hm : n ≤ 9223372036854775807) (hr2 : RdB w a2 n2 c2 L) (es : List Addr) (hE : Errs w gerrs es) :
    Calls Tryd.prog 6 #[.slice a n c, .int .u16 z, .slice a2 n2 c2] w fun e w' => e = .returned (.bool true) ∧ Below w.heap.size w w' := by
  obtain ⟨i0, hi, hz0, hz1, hz2⟩ := info_parts infoU8
  have HE := hid hE
  have HR := hid hr
  have HR2 := hid hr2
  have hlen := hr.len
  have HLEN := hid hlen
  have hm2 : n2 ≤ 9223372036854775807 := by have := Nat.le_trans hr2.le hr2.max; simp only [maxLen] at this; omega
  clear hE hr hr2 hlen
  obtain ⟨q, hq⟩ : ∃ q : Bool, q = decide (Good z ∨ 2000 < n) := ⟨_, rfl⟩
  have HQ := hid hq
  clear hq
  go_enter Tryd.func6, Tryd.ntmps6
  go_upto_region 1 with fail
  go_cut [30] (fun v wx => v = .bool q ∧ wx = w)
  case first =>
    by_cases h1 : 8 ≤ z
    · have e1 : decide ((8 : Int) ≤ z) = true := decide_eq_true (by omega)
      by_cases h2 : z % 4 = 0
      · have e2 : ((z : Int) % 4 == 0) = true := by rw [beq_iff_eq]; omega
        by_cases h3 : z ≤ 4096
        · have e3 : decide ((z : Int) ≤ 4096) = true := decide_eq_true (by omega)
          go_wp2_with fail
          go_meet
          exact ⟨by rw [HQ.out, decide_eq_true (p := Good z ∨ 2000 < n) (.inl ⟨h1, h2, h3⟩)], rfl⟩
        · have e3 : decide ((z : Int) ≤ 4096) = false := decide_eq_false (by omega)
          by_cases h4 : 2000 < n
          · have e4 : decide ((2000 : Int) < n) = true := decide_eq_true (by omega)
            go_wp2_with fail
            go_meet
            exact ⟨by rw [HQ.out, decide_eq_true (p := Good z ∨ 2000 < n) (.inr h4)], rfl⟩
          · have e4 : decide ((2000 : Int) < n) = false := decide_eq_false (by omega)
            go_wp2_with fail
            go_meet
            exact ⟨by rw [HQ.out, decide_eq_false (p := Good z ∨ 2000 < n) (fun h => h.elim (fun g => h3 g.2.2) h4)], rfl⟩
      · have e2 : ((z : Int) % 4 == 0) = false := beq_false_of_ne (by omega)
        by_cases h4 : 2000 < n
        · have e4 : decide ((2000 : Int) < n) = true := decide_eq_true (by omega)
          go_wp2_with fail
          go_meet
          exact ⟨by rw [HQ.out, decide_eq_true (p := Good z ∨ 2000 < n) (.inr h4)], rfl⟩
        · have e4 : decide ((2000 : Int) < n) = false := decide_eq_false (by omega)
          go_wp2_with fail
          go_meet
          exact ⟨by rw [HQ.out, decide_eq_false (p := Good z ∨ 2000 < n) (fun h => h.elim (fun g => h2 g.2.1) h4)], rfl⟩
    · have e1 : decide ((8 : Int) ≤ z) = false := decide_eq_false (by omega)
      by_cases h4 : 2000 < n
      · have e4 : decide ((2000 : Int) < n) = true := decide_eq_true (by omega)
        go_wp2_with fail
        go_meet
        exact ⟨by rw [HQ.out, decide_eq_true (p := Good z ∨ 2000 < n) (.inr h4)], rfl⟩
      · have e4 : decide ((2000 : Int) < n) = false := decide_eq_false (by omega)
        go_wp2_with fail
        go_meet
        exact ⟨by rw [HQ.out, decide_eq_false (p := Good z ∨ 2000 < n) (fun h => h.elim (fun g => h1 g.1) h4)], rfl⟩
  case rest =>
    obtain ⟨rfl, rfl⟩ := hcut
    have HW : Hid (∀ u, Below wc.heap.size wc u → Calls Tryd.prog 8 #[] u fun e w' => e = .returned (.bool true) ∧ Below wc.heap.size wc w') := fun u hu => by
      refine (awake5_any u es (HE.out.below hu)).mono ?_
      rintro e w' ⟨rfl, hb⟩
      exact ⟨rfl, Below.on hu hb⟩
    cases q with
    | true =>
      go_wp2_with fail
      refine (HW.out _ (Below.refl _ _)).mono ?_
      rintro e w1 ⟨rfl, hb⟩
      go_wp2
      go_ret
      exact ⟨rfl, hb⟩
    | false =>
      have hno : ¬ (Good z ∨ 2000 < n) := fun h => by have := HQ.out; rw [decide_eq_true h] at this; cases this
      have hn : n ≤ 2000 := by omega
      have HN := hid (hd_bad z hz (fun h => hno (.inl h)))
      clear hno HQ hm
      go_wp2_with fail
      refine (new_any wc es).mono ?_
      rintro e w1 ⟨rfl, hb1, hs1, hr1⟩
      have R1 := hid (hr1 wc.heap.size (Nat.le_refl _))
      have B1 := hid hb1
      clear hr1 hb1 hs1
      go_wp2_with fail
      refine (bytes_any w1 _ n c l (HR.out.below B1.out (rd_low HR.out)) (by omega)).mono ?_
      rintro e w2 ⟨a3, c3, rfl, hrd3, hb2, _⟩
      have F1 := hid (feed_any wc w2 (Below.on B1.out hb2) es HE.out wc.heap.size (.slice none 0 0) ⟨[], 0⟩ (by decide) (Rdr.on R1.out hb2) a3 n c3 l hrd3 (by show 0 + n ≤ 1000000; omega))
      have B2 := hid (Below.on B1.out hb2)
      have R2 := hid (Rdr.on R1.out hb2)
      clear hrd3 hb2 R1 B1
      go_wp2_with fail
      refine F1.out.mono ?_
      rintro e w3 ⟨r, vr, rfl, f1, f2, f3, f4, f5⟩
      rw [show fdM ⟨[], 0⟩ l = (tk l).1 from rfl] at f1
      rw [show fdS ⟨[], 0⟩ l = at' l from rfl] at f2
      rw [show fdE ⟨[], 0⟩ l = (tk l).2.2 from rfl]
      obtain ⟨aw, cw, rfl, _, _⟩ := rdr_of_owns f1
      have B3 := hid (B2.out.trans (f3.below B2.out.size R2.out.own_lo))
      have hfew : (tk l).1.length ≤ n / 8 := by have := (tk_err l).2.2; rw [HLEN.out] at this; omega
      clear F1 B2 R2 f1 f3 f4 f5
      by_cases h0 : (tk l).2.2 = 0
      · rw [h0, show erv es 0 = Value.nilIface from rfl]
        have CL : Hid (∀ u, Below w3.heap.size w3 u → Calls Tryd.prog 13 #[.pointer (some ⟨wc.heap.size, 0, none⟩)] u fun e w' => e = .returned (.int .i64 ((tk l).2.1.length : Nat)) ∧ w' = u) := fun u hu => left_any u _ _ _ _ _ (Rdr.on f2 hu)
        by_cases h00 : (tk l).2.1 = []
        · have hst : at' l = ⟨[], 0⟩ := by rw [at', h0, h00]
          rw [hst] at f2
          rw [h00] at CL
          have R3 := hid f2
          have HP1 : Hid (Calls Tryd.prog 16 #[.int .u32 1] w3 fun e w' => ∃ r, e = .returned r ∧ w'.ownsRow w3.heap.size 5 1 r 4 (bc (le4 1)) ∧ Below w3.heap.size w3 w') := rPut_any w3 1 (by decide)
          clear f2 hst h0 h00
          go_wp2_with fail
          refine (CL.out _ (Below.refl _ _)).mono ?_
          rintro e w3 ⟨rfl, rfl⟩
          go_wp2_with fail
          refine HP1.out.mono ?_
          rintro e w4 ⟨r4, rfl, o4, b4⟩
          have O4 := hid o4
          have B4 := hid b4
          have HP2 : Hid (Calls Tryd.prog 16 #[.int .u32 ((z : Int) * 65536)] w4 fun e w' => ∃ r, e = .returned r ∧ w'.ownsRow w4.heap.size 5 1 r 4 (bc (le4 (z * 65536))) ∧ Below w4.heap.size w4 w') := by
            have h := rPut_any w4 (z * 65536) (by omega)
            rw [show ((z * 65536 : Nat) : Int) = (z : Int) * 65536 by omega] at h
            exact h
          clear o4 b4 HP1 CL
          go_wp2_with fail
          refine HP2.out.mono ?_
          rintro e w5 ⟨r5, rfl, o5, b5⟩
          obtain ⟨a5, c5, rfl, q5, _⟩ := rd_of_owns o5
          have ho5 := ownsRow_below O4.out b5
          have hb5 := Below.on B4.out b5
          have HS := hid (q5.src (P := Tryd.prog) Tryd.underlying26)
          have HG : Hid (∀ v' u, u.ownsRow w3.heap.size 5 1 v' (4 + 4) (bc (le4 1) ++ bc (le4 (z * 65536))) → w5.grownBy u r4.ownBlock → (∃ a6 c6, v' = .slice a6 8 c6 ∧ Rd u a6 8 c6 (hd z)) ∧ Below w3.heap.size w3 u) := fun v' u o6 g6 => by
            rw [← bc_append] at o6
            obtain ⟨a6, c6, rfl, h6, _⟩ := rd_of_owns (l := hd z) o6
            exact ⟨⟨a6, c6, rfl, h6⟩, hb5.grown g6 hb5.size (row_lt ho5)⟩
          have HO5 := hid ho5
          have hsz5 := hb5.size
          clear o5 q5 b5 HP2 O4 ho5 hb5
          go_wp2_with (at_builtin; refine wpList_append_own_src _ rfl (.tmp 52) (.tmp 56) 26 26 rfl w3.heap.size 5 i0 (.int .u8 0) 1 1 Tryd.underlying26 hi hz0 hz1 hz2 rfl _ _ _ rfl HO5.out _ _ _ rfl HS.out (by decide) (fits1 (by decide)) hsz5 ?_; intro v6 w6 o6 g6; obtain ⟨⟨a6, c6, rfl, h6⟩, b6⟩ := HG.out _ _ o6 g6; have RD6 := hid h6; have B6 := hid b6; clear o6 g6 h6 b6 HG HO5 HS)
          have B6' := hid (Below.on B3.out B6.out)
          have R6 := hid (Rdr.on R3.out B6.out)
          refine (feed_any wc w6 B6'.out es HE.out wc.heap.size vr ⟨[], 0⟩ (by decide) R6.out a6 8 c6 (hd z) RD6.out (by decide)).mono ?_
          rintro e w7 ⟨r7, v7, rfl, f1, f2, f3, f4, f5⟩
          have ht : tk (hd z) = ([], [], fE (hd z)) := tk_bad HN.out
          rw [(fd0 (hd z)).1, ht] at f1
          rw [(fd0 (hd z)).2.2, ht] at f2
          rw [(fd0 (hd z)).2.1, ht]
          obtain ⟨a7, c7, rfl, _, _⟩ := rdr_of_owns f1
          obtain ⟨K, hK⟩ : ∃ K, fE (hd z) = K + 1 := ⟨fE (hd z) - 1, by have := HN.out; omega⟩
          have hK16 : K < 16 := by have := HN.out; omega
          obtain ⟨x, _, hx, _⟩ := erv_at HE.out K hK16
          have B7 := hid (B6'.out.trans (f3.below B6'.out.size R6.out.own_lo))
          have R7 : Hid (Rdr wc.heap.size w7 wc.heap.size v7 ⟨[], K + 1⟩ es) := by rw [← hK]; exact f2
          rw [show (([] : List RV), ([] : List UInt8), fE (hd z)).2.2 = fE (hd z) from rfl, hK, hx]
          have HX := hid hx
          have CL : Hid (∀ u v, Rdr wc.heap.size u wc.heap.size v ⟨[], K + 1⟩ es → Calls Tryd.prog 13 #[.pointer (some ⟨wc.heap.size, 0, none⟩)] u fun e w' => e = .returned (.int .i64 0) ∧ w' = u) := fun u v hu => left_any u _ _ _ _ _ hu
          have CK : Hid (∀ u, Below wc.heap.size wc u → Calls Tryd.prog 12 #[.iface 85 (.pointer (some x))] u fun e w' => e = .returned (.int .i64 (K + 1 : Nat)) ∧ Below u.heap.size u w') := fun u hu => by
            have h := kind_erv u es (HE.out.below hu) (K + 1) (by omega)
            rw [HX.out] at h
            exact h
          clear f1 f2 f3 f4 f5 ht hK hx B6' R6 RD6 B6 B3 R3 HN B4
          go_wp2_with fail
          refine (CL.out _ _ R7.out).mono ?_
          rintro e w7 ⟨rfl, rfl⟩
          go_wp2
          go_loopw [12] (fun i wr => ∃ (j : Nat) (v : Value), i = .int .i64 j ∧ j ≤ 10 ∧ j ≤ n2 ∧ Below wc.heap.size wc wr ∧ Rdr wc.heap.size wr wc.heap.size v ⟨[], K + 1⟩ es) (fun i _ => 10 - (intOf i).toNat)
          case atStart => exact ⟨0, v7, rfl, by decide, Nat.zero_le _, B7.out, R7.out⟩
          case round =>
            obtain ⟨j, v, rfl, hj1, hj2, hb, hR⟩ := hrel
            have HB := hid hb
            have RR := hid hR
            clear hb hR B7 R7
            by_cases hgo : j < n2 ∧ j < 10
            · have e1 : decide ((j : Int) < n2) = true := decide_eq_true (by omega)
              have e2 : decide ((j : Int) < 10) = true := decide_eq_true (by omega)
              obtain ⟨b, off, lj, aj, nj, cj, rfl, hL, hc, hrd, hnj⟩ := HR2.out.at_ j hgo.1
              have hlt : (j : Int) < n2 := by omega
              have hcw : wr.cell? ⟨b, off + j, none⟩ = some (.slice aj nj cj) := by
                rw [HB.out.cell (World.block_lt_of_cell? wc _ hc)]
                exact hc
              have HBY := hid (bytes_big wr aj nj cj lj (hrd.below HB.out (rd_low hrd)) hnj)
              clear hc hrd hL
              go_wp2_with fail
              refine HBY.out.mono ?_
              rintro e u1 ⟨b1, d1, rfl, _, hb1⟩
              have R1 := hid (Rdr.on RR.out hb1)
              have B1 := hid (Below.on HB.out hb1)
              have hv1 := R1.out.var
              rw [show erv es (⟨[], K + 1⟩ : St).k = erv es (K + 1) from rfl, HX.out] at hv1
              have FW := hid (feed_wrong u1 _ v x b1 nj d1 hv1)
              clear hb1 HBY hv1 hcw hnj
              go_wp2_with fail
              refine FW.out.mono ?_
              rintro e u2 ⟨rfl, q, rfl⟩
              have hq : Below u1.heap.size u1 (u1.drewN q) := below_drewN (Below.refl _ _) q
              have B2 := hid (Below.on B1.out hq)
              have R2 := hid (Rdr.on R1.out hq)
              clear hq B1 R1 FW
              generalize u1.drewN q = u2 at *
              go_wp2_with fail
              refine (CK.out _ B2.out).mono ?_
              rintro e u3 ⟨rfl, hb3⟩
              have B3 := hid (Below.on B2.out hb3)
              have R3 := hid (Rdr.on R2.out hb3)
              clear hb3 B2 R2
              go_wp2_with fail
              refine (CK.out _ B3.out).mono ?_
              rintro e u4 ⟨rfl, hb4⟩
              have B4 := hid (Below.on B3.out hb4)
              have R4 := hid (Rdr.on R3.out hb4)
              clear hb4 B3 R3
              go_wp2_with fail
              refine (CL.out _ _ R4.out).mono ?_
              rintro e u4 ⟨rfl, rfl⟩
              go_wp2
              go_roundw
              case rel => exact ⟨j + 1, v, by go_num, by omega, by omega, B4.out, R4.out⟩
              case measure => simp [intOf]; omega
            · have e5 : decide ((((tk l).1.length : Nat) : Int) ≤ (n : Int) / 8) = true := decide_eq_true (by omega)
              by_cases h1 : j < n2
              · have e1 : decide ((j : Int) < n2) = true := decide_eq_true (by omega)
                have e2 : decide ((j : Int) < 10) = false := decide_eq_false (by omega)
                go_wp2_with fail
                refine (HW.out _ HB.out).mono ?_
                rintro e w8 ⟨rfl, hb8⟩
                go_wp2
                go_ret
                exact ⟨rfl, hb8⟩
              · have e1 : decide ((j : Int) < n2) = false := decide_eq_false (by omega)
                go_wp2_with fail
                refine (HW.out _ HB.out).mono ?_
                rintro e w8 ⟨rfl, hb8⟩
                go_wp2
                go_ret
                exact ⟨rfl, hb8⟩
        · have hl0 : ((((tk l).2.1.length : Nat) : Int) != 0) = true := by
            rw [bne_iff_ne]
            intro h
            exact h00 (List.eq_nil_of_length_eq_zero (by omega))
          go_wp2_with fail
          refine (CL.out _ (Below.refl _ _)).mono ?_
          rintro e w3 ⟨rfl, rfl⟩
          go_wp2_with fail
          refine (HW.out _ B3.out).mono ?_
          rintro e w4 ⟨rfl, hb4⟩
          go_wp2
          go_ret
          exact ⟨rfl, hb4⟩
      · obtain ⟨x, hx⟩ : ∃ x, erv es (tk l).2.2 = .iface 85 (.pointer (some x)) := by
          obtain ⟨m, hm⟩ : ∃ m, (tk l).2.2 = m + 1 := ⟨(tk l).2.2 - 1, by omega⟩
          rw [hm]
          exact ⟨_, rfl⟩
        rw [hx]
        go_wp2_with fail
        refine (HW.out _ B3.out).mono ?_
        rintro e w4 ⟨rfl, hb4⟩
        go_wp2
        go_ret
        exact ⟨rfl, hb4⟩

theorem walk (a : Option Addr) (n c : Nat) (zs : List Int) (z : Int) (a2 : Option Addr) (n2 c2 : Nat) (L : List (List UInt8)) (w : World) (hr : RdI .u8 w a n c zs) (hc : c * 1 ≤ 140737488351232) (hz : (Lit.int .u16 z).wf = true) (hr2 : RdB w a2 n2 c2 L) (hL : laidMetH Tryd.prog Rows.readerStopsRow.laid w) :
    Calls Tryd.prog 6 #[.slice a n c, .int .u16 z, .slice a2 n2 c2] w fun e w' => e = .returned (.bool true) ∧ Below w.heap.size w w' := by
  obtain ⟨es, hF⟩ := errs16 hL
  obtain ⟨l, hr', _⟩ := hr.bytes
  have hle := hr.le
  have hz' : 0 ≤ z ∧ z ≤ 65535 := by simpa [Lit.wf, IntKind.min, IntKind.max, IntKind.signed, IntKind.bits] using hz
  obtain ⟨z, rfl⟩ := Int.eq_ofNat_of_zero_le hz'.1
  exact core a n c l z (by omega) a2 n2 c2 L w hr' (by omega) hr2 es hF
end Go.Proofs.YtfbebifbfpkdaaaDoor.readerStops
