/- ForestUnseen: what is only pending is seen by nobody; nothing that was there has turned. Written by forest/mk_uns.py. -/
import Derived.Test.YtdgknofpkafppaaGreatDoorB47
import Derived.Test.YtdgknofpkafppaaGreatDoorUnA
namespace Go.Proofs.YtdgknofpkafppaaGreatDoor.forestUnseen
open Go Go.RowKit

/-- What was told, in a world. -/
structure Kn (a1 : Option Addr) (c1 : Nat) (l1 : List (List Int)) (a2 : Option Addr) (c2 : Nat) (l2 : List Int) (r : Sx) (g : Nat) (u : World) : Prop where
  lt : g < u.heap.size
  n0 : u.cell? ⟨g, 0, none⟩ = some (.bool r.at_)
  n1 : u.cell? ⟨g, 1, none⟩ = some (.int .i64 r.buf)
  n2 : u.cell? ⟨g, 2, none⟩ = some (.slice r.dm.a r.dm.n r.dm.c)
  n3 : u.cell? ⟨g, 3, none⟩ = some (.slice r.fr.a r.fr.n r.fr.c)
  n4 : u.cell? ⟨g, 4, none⟩ = some (.bool r.inp)
  n5 : u.cell? ⟨g, 5, none⟩ = some (.bool r.all)
  n6 : u.cell? ⟨g, 6, none⟩ = some (.slice r.rg.a r.rg.n r.rg.c)
  n7 : u.cell? ⟨g, 7, none⟩ = some (.bool r.ord)
  n8 : u.cell? ⟨g, 8, none⟩ = some (.slice r.od.a r.od.n r.od.c)
  n9 : u.cell? ⟨g, 9, none⟩ = some (.slice r.pl.a r.pl.n r.pl.c)
  wk : RdM 3 u a1 l1.length c1 l1
  hd : Rz u a2 l2.length c2 l2
  ok : r.Ok u
theorem Kn.on {a1 : Option Addr} {c1 : Nat} {l1 : List (List Int)} {a2 : Option Addr} {c2 : Nat} {l2 : List Int} {r : Sx} {g : Nat} {u u' : World} (h : Kn a1 c1 l1 a2 c2 l2 r g u) (hb : Below u.heap.size u u') : Kn a1 c1 l1 a2 c2 l2 r g u' :=
  ⟨Nat.lt_of_lt_of_le h.lt hb.size, by rw [hb.cell h.lt]; exact h.n0, by rw [hb.cell h.lt]; exact h.n1, by rw [hb.cell h.lt]; exact h.n2, by rw [hb.cell h.lt]; exact h.n3, by rw [hb.cell h.lt]; exact h.n4, by rw [hb.cell h.lt]; exact h.n5, by rw [hb.cell h.lt]; exact h.n6, by rw [hb.cell h.lt]; exact h.n7, by rw [hb.cell h.lt]; exact h.n8, by rw [hb.cell h.lt]; exact h.n9, h.wk.on hb, h.hd.on hb, h.ok.on hb⟩

set_option maxRecDepth 100000 in
set_option maxHeartbeats 20000000 in
theorem core (a : Option Addr) (n c : Nat) (s1 : Option Addr) (m k1 : Nat) (id : Int) (w : World) (hr : RdQ w a n c) (hs : RdQ w s1 m k1) (hi : Bt id) (es : List Addr) (hE : Errs w gerrs es) :
    Calls Tryz.prog 4 #[.slice a n c, .slice s1 m k1, .int .i64 id] w fun e w' => e = .returned (.bool true) ∧ Below w.heap.size w w' := by
  have hn63 : n ≤ 9223372036854775807 := by
    have h1 := hr.le
    have h2 := hr.max
    simp only [maxLen] at h2
    omega
  have hm63 : m ≤ 9223372036854775807 := by
    have h1 := hs.le
    have h2 := hs.max
    simp only [maxLen] at h2
    omega
  have HR := hid hr
  have HS := hid hs
  have HE := hid hE
  have CN := hid (pq_new w w (Below.refl _ _) (fe_of hE) (ng_of hE))
  have AW : Hid (∀ W, RowKit.Below w.heap.size w W → Calls Tryz.prog 6 #[] W fun e w' => e = .returned (.bool true) ∧ RowKit.Below W.heap.size W w') := fun W hW => fawake_any W (fe_of (HE.out.below hW)) (Nat.le_trans (ng_of HE.out) hW.size)
  clear hr hs hE
  go_enter Tryz.func4, Tryz.ntmps4
  go_wp2_with fail
  refine CN.out.mono ?_
  rintro e w1 ⟨p, X, rfl, hp1, -, -⟩
  have HP5 : Hid (B2q es w p w1.heap.size 0 [] (w1.alloc (.cells #[.slice none 0 0] 28))) :=
    ⟨⟨_, sbs_new (pq_ft _ _ _ _ _) hp1 ((Below.refl _ _).alloc (Nat.le_refl _) _) (dq_new w w1 hp1.1) (fun b hb => by
      obtain rfl := List.mem_singleton.1 hb
      exact Nat.le_refl _)⟩, HE.out⟩
  clear hp1 CN
  go_wp2
  generalize w1.alloc (.cells #[.slice none 0 0] 28) = w5 at *
  generalize w1.heap.size = q at *
  go_loopw [9] (fun v wr => ∃ (j : Nat) (F : Fo), v = .int .i64 (j : Int) ∧ j ≤ n ∧ j ≤ 50 ∧ B2q es w p q (2 * j) F wr) (fun v _ => 51 - (numOf v).toNat)
  case atStart => exact ⟨0, [], rfl, by omega, by omega, HP5.out⟩
  case round =>
    obtain ⟨j, F, rfl, hj, hj60, hp⟩ := hrel
    clear HP5
    have hbw := hp.bel
    by_cases hgo : j < n ∧ j < 50
    · obtain ⟨hgo1, hgo2⟩ := hgo
      have e1 : decide ((j : Int) < (n : Int)) = true := decide_eq_true (by omega)
      have e2 : decide ((j : Int) < 50) = true := decide_eq_true (by omega)
      have e3 : (j : Int) < (n : Int) := by omega
      obtain ⟨b, off, o, rfl, hlt, hc, ok⟩ := HR.out.each j hgo1
      have cc : ∀ i, i < 9 → wr.cell? ⟨b, off + j * 9 + i, none⟩ = (oqc o)[i]? := fun i hi => by rw [hbw.cell hlt]; exact hc i hi
      have hlr : b < wr.heap.size := Nat.lt_of_lt_of_le hlt hbw.size
      have t0 : wr.cell? ⟨b, off + j * 9, none⟩ = some (.int .i64 o.k) := cc 0 (by omega)
      have t1 : wr.cell? ⟨b, off + j * 9 + 1, none⟩ = some (.int .i64 o.id) := cc 1 (by omega)
      have t2 : wr.cell? ⟨b, off + j * 9 + 2, none⟩ = some (.int .i64 o.a) := cc 2 (by omega)
      have t3 : wr.cell? ⟨b, off + j * 9 + 3, none⟩ = some (.int .i64 o.b) := cc 3 (by omega)
      have t4 : wr.cell? ⟨b, off + j * 9 + 4, none⟩ = some (.int .i64 o.x) := cc 4 (by omega)
      have t5 : wr.cell? ⟨b, off + j * 9 + 5, none⟩ = some (.int .i64 o.y) := cc 5 (by omega)
      have t6 : wr.cell? ⟨b, off + j * 9 + 6, none⟩ = some (.int .i64 o.w) := cc 6 (by omega)
      have t7 : wr.cell? ⟨b, off + j * 9 + 7, none⟩ = some (.int .i64 o.h) := cc 7 (by omega)
      have t8 : wr.cell? ⟨b, off + j * 9 + 8, none⟩ = some (.slice o.l.a o.l.n o.l.c) := cc 8 (by omega)
      by_cases h20 : o.l.n ≤ 20
      · have e4 : decide ((20 : Int) < (o.l.n : Int)) = false := decide_eq_false (by omega)
        have CS := hid (step_any hp (by omega) o ok h20)
        clear hp cc hc ok hlt hbw h20 AW HS
        go_wp2_with fail
        refine CS.out.mono ?_
        rintro e W2 ⟨rfl, F2, hF2⟩
        have HF := hid hF2
        clear hF2 CS t0 t1 t2 t3 t4 t5 t6 t7 t8
        go_wp2
        go_roundw
        case rel => exact ⟨j + 1, F2, by go_num, by omega, by omega, HF.out.mono (by omega)⟩
        case measure => simp [numOf]; omega
      · have e4 : decide ((20 : Int) < (o.l.n : Int)) = true := decide_eq_true (by omega)
        have CA := hid (AW.out wr hbw)
        have HBW := hid hbw
        clear hp cc hc ok hlt hbw h20 AW HS
        go_wp2_with fail
        refine CA.out.mono ?_
        rintro e W2 ⟨rfl, hb2⟩
        have HB := hid (Below.on HBW.out hb2)
        clear hb2 CA HBW
        go_wp2
        go_ret
        exact ⟨rfl, HB.out⟩
    · obtain ⟨_, X, Y, hP, _, _⟩ := hp.ex
      have hXl := fun b hb => ((pq_ft es w p (2 * j) F).lt hP b hb).2
      have CW := hid (hP.pg.wlkw id hi)
      have HP := hid hP
      have HXL := hid hXl
      have gg : (j < n ∧ (j : Int) < n ∧ decide ((j : Int) < n) = true ∧ ¬ j < 50 ∧ decide ((j : Int) < 50) = false) ∨ (¬ j < n ∧ decide ((j : Int) < n) = false) := by
        rcases Nat.lt_or_ge j n with h | h
        · exact .inl ⟨h, by omega, decide_eq_true (by omega), by omega, decide_eq_false (by omega)⟩
        · exact .inr ⟨by omega, decide_eq_false (by omega)⟩
      have hj100 : 2 * j ≤ 100 := by omega
      have hj900 : 2 * j ≤ 900 := by omega
      clear hgo hp hP hXl hbw hj hj60 HR
      rcases gg with ⟨e1, e2, e3, e4, e5⟩ | ⟨e1, e3⟩
      all_goals
        go_wp2_with fail
        refine CW.out.mono ?_
        rintro e W1 ⟨a1, c1, rfl, hr1, hf1, hb1⟩
        have CH := hid (HP.out.pg.on hb1).hldw
        have HB1 := hid hb1
        have HR1 := hid hr1
        have HF1 := hid hf1
        clear CW hr1 hf1 hb1
        go_wp2_with fail
        refine CH.out.mono ?_
        rintro e W2 ⟨a2, c2, rfl, hr2, hf2, hb2⟩
        have CC := hid ((HP.out.pg.on (Below.on HB1.out hb2)).sno hj900 id hi)
        have HB2 := hid (Below.on HB1.out hb2)
        have HR2 := hid hr2
        have HF2 := hid hf2
        have HR1' := hid (HR1.out.on hb2)
        clear CH hr2 hf2 hb2
        go_wp2_with fail
        refine CC.out.mono ?_
        rintro e W3 ⟨r, rfl, ho, hnw, hq, hb3⟩
        have HV : Hid (∀ V0 : World, V0 = W3.alloc (.cells #[.bool r.at_, .int .i64 r.buf, .slice r.dm.a r.dm.n r.dm.c, .slice r.fr.a r.fr.n r.fr.c, .bool r.inp, .bool r.all, .slice r.rg.a r.rg.n r.rg.c, .bool r.ord, .slice r.od.a r.od.n r.od.c, .slice r.pl.a r.pl.n r.pl.c] 43) → Un es w p F X V0 100 V0 ∧ ∀ u, Kp X V0 u → Kn a1 c1 (wlk F 41 id 0 0) a2 c2 (setOf (hldL F)) r W3.heap.size u) := fun V0 hV0 => by
          have hb4 : RowKit.Below W3.heap.size W3 V0 := by rw [hV0]; exact bel_new W3 _
          have hBB := Below.on (Below.on HB2.out hb3) hb4
          have hPV := (pq_ft es w p (2 * j) F).on HP.out hBB
          have s1 := HB1.out.size
          have s2 := HB2.out.size
          have s3 := hb3.size
          have s4 := hb4.size
          refine ⟨⟨F, rfl, Nx.refl (pq_ft _ _ _ _ _) (pq_mono hPV hj100) (Below.refl _ _)⟩, fun u hk => ?_⟩
          have hg : ∀ k, V0.cell? ⟨W3.heap.size, k, none⟩ = #[.bool r.at_, .int .i64 r.buf, .slice r.dm.a r.dm.n r.dm.c, .slice r.fr.a r.fr.n r.fr.c, .bool r.inp, .bool r.all, .slice r.rg.a r.rg.n r.rg.c, .bool r.ord, .slice r.od.a r.od.n r.od.c, .slice r.pl.a r.pl.n r.pl.c][k]? := fun k => by rw [hV0]; exact Lib.cell_of_heap (heap_alloc_new W3 _) k
          have hgx : W3.heap.size ∉ X := fun hm => by have := HXL.out _ hm; omega
          have hlV : W3.heap.size < V0.heap.size := by rw [hV0, World.size_alloc]; omega
          exact ⟨Nat.lt_of_lt_of_le hlV hk.size, hk.cell (hg 0) hgx, hk.cell (hg 1) hgx, hk.cell (hg 2) hgx, hk.cell (hg 3) hgx, hk.cell (hg 4) hgx, hk.cell (hg 5) hgx, hk.cell (hg 6) hgx, hk.cell (hg 7) hgx, hk.cell (hg 8) hgx, hk.cell (hg 9) hgx,
            (((HR1'.out.on hb3).on hb4).kp hk (fun y hy _ hm => by have := HF1.out y hy; have := HXL.out _ hm; omega)),
            (rz_kp ((HR2.out.on hb3).on hb4) hk (fun y hy _ hm => by have := HF2.out y hy; have := HXL.out _ hm; omega)),
            (ho.on hb4).kpz hk (fun b hb => off_newb hnw (by have := HXL.out _ hb; omega))⟩
        have hqq := hq
        have HQ := hid hqq
        clear CC HR2 HF2 HR1' HR1 HF1 ho hnw hq hb3 hqq HB1 HB2 HP HXL
        go_upto_region 12 with fail
        obtain ⟨V0, hV0⟩ : ∃ V0, V0 = W3.alloc (.cells #[.bool r.at_, .int .i64 r.buf, .slice r.dm.a r.dm.n r.dm.c, .slice r.fr.a r.fr.n r.fr.c, .bool r.inp, .bool r.all, .slice r.rg.a r.rg.n r.rg.c, .bool r.ord, .slice r.od.a r.od.n r.od.c, .slice r.pl.a r.pl.n r.pl.c] 43) := ⟨_, rfl⟩
        obtain ⟨hu0, hkn⟩ := HV.out V0 hV0
        rw [← hV0]
        clear HV hV0
        generalize W3.heap.size = gn at *
        have HU0 := hid hu0
        have HKN := hid hkn
        clear hu0 hkn
        go_wp2
        go_loopw [13] (fun v wr => ∃ i : Nat, v = .int .i64 (i : Int) ∧ i ≤ m ∧ i ≤ 30 ∧ Un es w p F X V0 (100 + i) wr) (fun v _ => 31 - (numOf v).toNat)
        case atStart => exact ⟨0, rfl, by omega, by omega, HU0.out⟩
        case round =>
          obtain ⟨i, rfl, hi1, hi30, hU⟩ := hrel
          clear HU0
          have hbU := hU.bel
          by_cases hgo : i < m ∧ i < 30
          · obtain ⟨hgo1, hgo2⟩ := hgo
            have e11 : decide ((i : Int) < (m : Int)) = true := decide_eq_true (by omega)
            have e12 : decide ((i : Int) < 30) = true := decide_eq_true (by omega)
            have e13 : (i : Int) < (m : Int) := by omega
            obtain ⟨b, off, o, rfl, hlt, hc, ok⟩ := HS.out.each i hgo1
            have cc : ∀ k, k < 9 → wr.cell? ⟨b, off + i * 9 + k, none⟩ = (oqc o)[k]? := fun k hk => by rw [hbU.cell hlt]; exact hc k hk
            have hlr : b < wr.heap.size := Nat.lt_of_lt_of_le hlt hbU.size
            have t0 : wr.cell? ⟨b, off + i * 9, none⟩ = some (.int .i64 o.k) := cc 0 (by omega)
            have t1 : wr.cell? ⟨b, off + i * 9 + 1, none⟩ = some (.int .i64 o.id) := cc 1 (by omega)
            have t2 : wr.cell? ⟨b, off + i * 9 + 2, none⟩ = some (.int .i64 o.a) := cc 2 (by omega)
            have t3 : wr.cell? ⟨b, off + i * 9 + 3, none⟩ = some (.int .i64 o.b) := cc 3 (by omega)
            have t4 : wr.cell? ⟨b, off + i * 9 + 4, none⟩ = some (.int .i64 o.x) := cc 4 (by omega)
            have t5 : wr.cell? ⟨b, off + i * 9 + 5, none⟩ = some (.int .i64 o.y) := cc 5 (by omega)
            have t6 : wr.cell? ⟨b, off + i * 9 + 6, none⟩ = some (.int .i64 o.w) := cc 6 (by omega)
            have t7 : wr.cell? ⟨b, off + i * 9 + 7, none⟩ = some (.int .i64 o.h) := cc 7 (by omega)
            have t8 : wr.cell? ⟨b, off + i * 9 + 8, none⟩ = some (.slice o.l.a o.l.n o.l.c) := cc 8 (by omega)
            have CP := hid (place_any o.k 7 ok.k (by omega) (by omega))
            have hv := plc_lt o.k 7 (by omega)
            obtain ⟨v, hv'⟩ : ∃ v, v = plc o.k 7 := ⟨_, rfl⟩
            rw [← hv'] at CP hv
            have hO := hU.on (bel_new wr (.cells #[.int .i64 o.k, .int .i64 o.id, .int .i64 o.a, .int .i64 o.b, .int .i64 o.x, .int .i64 o.y, .int .i64 o.w, .int .i64 o.h, .slice o.l.a o.l.n o.l.c] 33))
            have hoc := oc_new wr o
            clear hv' hU cc hc hlt hbU HKN AW HS HQ
            go_upto_region 16 with fail
            generalize wr.alloc (.cells #[.int .i64 o.k, .int .i64 o.id, .int .i64 o.a, .int .i64 o.b, .int .i64 o.x, .int .i64 o.y, .int .i64 o.w, .int .i64 o.h, .slice o.l.a o.l.n o.l.c] 33) = X1 at *
            generalize wr.heap.size = g at *
            clear t0 t1 t2 t3 t4 t5 t6 t7 t8 hlr
            obtain ⟨t0, t1, t2, t3, t4, t5, t6, t7, t8, t9⟩ := hoc
            go_wp2_with fail
            refine (CP.out X1).mono ?_
            rintro e x2 ⟨rfl, hx2⟩
            obtain rfl : X1 = x2 := hx2.symm
            clear CP
            have hm1 : 100 + i ≤ 900 := by omega
            obtain rfl | rfl | rfl | rfl | rfl | rfl | rfl : v = 0 ∨ v = 1 ∨ v = 2 ∨ v = 3 ∨ v = 4 ∨ v = 5 ∨ v = 6 := by omega
            · have CA := hid (hO.call (fun F' => pq_att hm1 o.id o.a ok.id ok.a) (fun F' hn => nop_upd hn o.id _ (fun _ => rfl)))
              clear hO
              go_wp2_with fail
              refine CA.out.mono ?_
              rintro e X3 ⟨⟨kk, rfl⟩, hU3⟩
              have HU3 := hid hU3
              clear hU3 CA t0 t1 t2 t3 t4 t5 t6 t7 t8 t9
              go_wp2
              go_roundw
              case rel => exact ⟨i + 1, by go_num, by omega, by omega, HU3.out⟩
              case measure => simp [numOf]; omega
            · have CA := hid (hO.call (fun F' => pq_dmg hm1 o.id ok.id o.x o.y o.w o.h) (fun F' hn => nop_upd hn o.id _ (fun _ => rfl)))
              clear hO
              go_wp2_with fail
              refine CA.out.mono ?_
              rintro e X3 ⟨⟨kk, rfl⟩, hU3⟩
              have HU3 := hid hU3
              clear hU3 CA t0 t1 t2 t3 t4 t5 t6 t7 t8 t9
              go_wp2
              go_roundw
              case rel => exact ⟨i + 1, by go_num, by omega, by omega, HU3.out⟩
              case measure => simp [numOf]; omega
            · have CA := hid (hO.call (fun F' => pq_frm hm1 o.id o.a ok.id) (fun F' hn => nop_upd hn o.id _ (fun _ => rfl)))
              clear hO
              go_wp2_with fail
              refine CA.out.mono ?_
              rintro e X3 ⟨⟨kk, rfl⟩, hU3⟩
              have HU3 := hid hU3
              clear hU3 CA t0 t1 t2 t3 t4 t5 t6 t7 t8 t9
              go_wp2
              go_roundw
              case rel => exact ⟨i + 1, by go_num, by omega, by omega, HU3.out⟩
              case measure => simp [numOf]; omega
            · have CA := hid (hO.call (fun F' => pq_pos hm1 o.id o.a o.b ok.id) (fun F' hn => nop_pos hn _ _ _))
              clear hO
              go_wp2_with fail
              refine CA.out.mono ?_
              rintro e X3 ⟨⟨kk, rfl⟩, hU3⟩
              have HU3 := hid hU3
              clear hU3 CA t0 t1 t2 t3 t4 t5 t6 t7 t8 t9
              go_wp2
              go_roundw
              case rel => exact ⟨i + 1, by go_num, by omega, by omega, HU3.out⟩
              case measure => simp [numOf]; omega
            · have CA := hid (hO.call (fun F' => pq_abv hm1 o.id o.a ok.id) (fun F' hn => nop_put hn _ _ _))
              clear hO
              go_wp2_with fail
              refine CA.out.mono ?_
              rintro e X3 ⟨⟨kk, rfl⟩, hU3⟩
              have HU3 := hid hU3
              clear hU3 CA t0 t1 t2 t3 t4 t5 t6 t7 t8 t9
              go_wp2
              go_roundw
              case rel => exact ⟨i + 1, by go_num, by omega, by omega, HU3.out⟩
              case measure => simp [numOf]; omega
            · have CA := hid (hO.call (fun F' => pq_blw hm1 o.id o.a ok.id) (fun F' hn => nop_put hn _ _ _))
              clear hO
              go_wp2_with fail
              refine CA.out.mono ?_
              rintro e X3 ⟨⟨kk, rfl⟩, hU3⟩
              have HU3 := hid hU3
              clear hU3 CA t0 t1 t2 t3 t4 t5 t6 t7 t8 t9
              go_wp2
              go_roundw
              case rel => exact ⟨i + 1, by go_num, by omega, by omega, HU3.out⟩
              case measure => simp [numOf]; omega
            · have CA := hid (hO.inp o.id ok.id)
              clear hO
              go_wp2_with fail
              refine CA.out.mono ?_
              rintro e X3 ⟨⟨kk, rfl⟩, hU3⟩
              have HU3 := hid hU3
              clear hU3 CA t0 t1 t2 t3 t4 t5 t6 t7 t8 t9
              go_wp2
              go_roundw
              case rel => exact ⟨i + 1, by go_num, by omega, by omega, HU3.out⟩
              case measure => simp [numOf]; omega
          · obtain ⟨F', hPg, ew, eh, en⟩ := hU.end_
            have HKE : Hid (∀ u, RowKit.Below wr.heap.size wr u → Kn a1 c1 (wlk F 41 id 0 0) a2 c2 (setOf (hldL F)) r gn u) := fun u hu => (HKN.out wr hU.kp).on hu
            have HWK : Hid (∀ u, RowKit.Below wr.heap.size wr u → Calls Tryz.prog 9 #[.pointer (some ⟨p, 0, none⟩), .int .i64 id] u fun e w' => ∃ a c, e = .returned (.slice a (wlk F 41 id 0 0).length c) ∧ RdM 3 w' a (wlk F 41 id 0 0).length c (wlk F 41 id 0 0) ∧ RowKit.Below u.heap.size u w') := fun u hu => by
              have := (hPg.on hu).wlk id hi
              rw [ew] at this
              exact this
            have HHD : Hid (∀ u, RowKit.Below wr.heap.size wr u → Calls Tryz.prog 10 #[.pointer (some ⟨p, 0, none⟩)] u fun e w' => ∃ a c, e = .returned (.slice a (setOf (hldL F)).length c) ∧ Rz w' a (setOf (hldL F)).length c (setOf (hldL F)) ∧ RowKit.Below u.heap.size u w') := fun u hu => by
              have := (hPg.on hu).hlds
              rw [eh] at this
              exact this
            have HCU : Hid (∀ u, RowKit.Below wr.heap.size wr u → Calls Tryz.prog 11 #[.pointer (some ⟨p, 0, none⟩), .int .i64 id] u (Rst u r.q)) := fun u hu => by
              have := (hPg.on hu).sno (by omega) id hi
              rw [en, ← HQ.out] at this
              exact this
            have HSM : Hid (∀ (x : Sx) (u : World), RowKit.Below wr.heap.size wr u → x.Ok u → x.q = r.q → Calls Tryz.prog 22 #[.agg #[.bool x.at_, .int .i64 x.buf, .slice x.dm.a x.dm.n x.dm.c, .slice x.fr.a x.fr.n x.fr.c, .bool x.inp, .bool x.all, .slice x.rg.a x.rg.n x.rg.c, .bool x.ord, .slice x.od.a x.od.n x.od.c, .slice x.pl.a x.pl.n x.pl.c], .agg #[.bool r.at_, .int .i64 r.buf, .slice r.dm.a r.dm.n r.dm.c, .slice r.fr.a r.fr.n r.fr.c, .bool r.inp, .bool r.all, .slice r.rg.a r.rg.n r.rg.c, .bool r.ord, .slice r.od.a r.od.n r.od.c, .slice r.pl.a r.pl.n r.pl.c]] u fun e w' => e = .returned (.bool true) ∧ RowKit.Below u.heap.size u w') := fun x u hu ho he => by
              have := rsame_any x r u ho (HKE.out u hu).ok
              rw [he, sm_same] at this
              exact this
            have HBU := hid hbU
            have gg2 : (i < m ∧ (i : Int) < m ∧ decide ((i : Int) < m) = true ∧ ¬ i < 30 ∧ decide ((i : Int) < 30) = false) ∨ (¬ i < m ∧ decide ((i : Int) < m) = false) := by
              rcases Nat.lt_or_ge i m with h | h
              · exact .inl ⟨h, by omega, decide_eq_true (by omega), by omega, decide_eq_false (by omega)⟩
              · exact .inr ⟨by omega, decide_eq_false (by omega)⟩
            clear hgo hU hbU hPg ew eh en HKN HQ HS
            generalize wlk F 41 id 0 0 = wl at *
            generalize setOf (hldL F) = hl at *
            rcases gg2 with ⟨e11, e12, e13, e14, e15⟩ | ⟨e11, e13⟩
            all_goals
              go_upto_region 30 with fail
              refine wp_region_held_drew (S := RowKit.Below wr.heap.size wr) (by kernel_rfl) ?hh (fun hHeld => ?_)
              case hh => exact ((Below.refl _ _).drew)
              generalize wr.drew = V1 at hHeld ⊢
              try dsimp only at hHeld
              refine wpAnyH_take (i := 0) (v := ?_) rfl (by kernel_rfl) (by kernel_rfl) (by kernel_rfl) (fun _ _ _ h => h) (Or.inl ⟨by kernel_rfl, ?hy0⟩) (by assumption) ?_
              case hy0 => (intro wI hSw; (try dsimp only at hSw); go_simp; try with_reducible rfl)
              try simp only [Act.put, List.getElem_toArray, List.getElem_cons_zero, List.setIfInBounds_toArray, List.set_cons_zero, List.set_cons_succ]
              refine wpAnyH_take (i := 1) (v := ?_) rfl (by kernel_rfl) (by kernel_rfl) (by kernel_rfl) (fun _ _ _ h => h) (Or.inl ⟨by kernel_rfl, ?hy1⟩) (by assumption) ?_
              case hy1 => (intro wI hSw; (try dsimp only at hSw); go_simp; try with_reducible rfl)
              try simp only [Act.put, List.getElem_toArray, List.getElem_cons_zero, List.getElem_cons_succ, List.setIfInBounds_toArray, List.set_cons_zero, List.set_cons_succ]
              refine wpAnyH_take (i := 3) (v := ?_) rfl (by kernel_rfl) (by kernel_rfl) (by kernel_rfl) (fun _ _ _ h => h) (Or.inl ⟨by kernel_rfl, ?hy3⟩) (by assumption) ?_
              case hy3 => (intro wI hSw; (try dsimp only at hSw); go_simp; try with_reducible rfl)
              try simp only [Act.put, List.getElem_toArray, List.getElem_cons_zero, List.getElem_cons_succ, List.setIfInBounds_toArray, List.set_cons_zero, List.set_cons_succ]
              refine wpAnyH_ready (rs := [2]) (by kernel_rfl) (by simp) ?_
              refine AllReadyH.cons rfl (fun K hK => ?_) AllReadyH.nil
              go_simp
              go_wp2_with fail
              refine (HWK.out V1 hHeld).mono ?_
              rintro e W2 ⟨ak, ck, rfl, hrk, hb⟩
              have hH2 := Below.on hHeld hb
              refine hK.out _ _ hH2 (fun _ => ?_)
              clear hK K hHeld hb
              have hHeld := hH2
              clear hH2
              try simp only [Act.put, List.getElem_toArray, List.getElem_cons_zero, List.getElem_cons_succ, List.setIfInBounds_toArray, List.set_cons_zero, List.set_cons_succ]
              refine wpAnyH_ready (rs := [4]) (by kernel_rfl) (by simp) ?_
              refine AllReadyH.cons rfl (fun K hK => ?_) AllReadyH.nil
              go_simp
              go_wp2_with fail
              refine (samechildren_any _ _ _ _ _ _ _ _ W2 hrk (HKE.out W2 hHeld).wk).mono ?_
              rintro e W4 ⟨rfl, qk, rfl⟩
              rw [leqs_same]
              have hH2 := Below.on hHeld (below_drewN (Below.refl _ W2) qk)
              refine hK.out _ _ hH2 (fun _ => ?_)
              clear hK K hHeld hrk
              have hHeld := hH2
              clear hH2
              generalize W2.drewN qk = W4 at *
              try simp only [Act.put, List.getElem_toArray, List.getElem_cons_zero, List.getElem_cons_succ, List.setIfInBounds_toArray, List.set_cons_zero, List.set_cons_succ]
              refine wpAnyH_take (i := 5) (v := ?_) rfl (by kernel_rfl) (by kernel_rfl) (by kernel_rfl) (fun _ _ _ h => h) (Or.inl ⟨by kernel_rfl, ?hy5⟩) (by assumption) ?_
              case hy5 => (intro wI hSw; (try dsimp only at hSw); go_simp; try with_reducible rfl)
              try simp only [Act.put, List.getElem_toArray, List.getElem_cons_zero, List.getElem_cons_succ, List.setIfInBounds_toArray, List.set_cons_zero, List.set_cons_succ]
              refine wpAnyH_take (i := 6) (v := ?_) rfl (by kernel_rfl) (by kernel_rfl) (by kernel_rfl) (fun _ _ _ h => h) (Or.inl ⟨by kernel_rfl, ?hy6⟩) (by assumption) ?_
              case hy6 => (intro wI hSw; (try dsimp only at hSw); go_simp; try with_reducible rfl)
              try simp only [Act.put, List.getElem_toArray, List.getElem_cons_zero, List.getElem_cons_succ, List.setIfInBounds_toArray, List.set_cons_zero, List.set_cons_succ]
              refine wpAnyH_take (i := 8) (v := ?_) rfl (by kernel_rfl) (by kernel_rfl) (by kernel_rfl) (fun _ _ _ h => h) (Or.inl ⟨by kernel_rfl, ?hy8⟩) (by assumption) ?_
              case hy8 => (intro wI hSw; (try dsimp only at hSw); go_simp; try with_reducible rfl)
              try simp only [Act.put, List.getElem_toArray, List.getElem_cons_zero, List.getElem_cons_succ, List.setIfInBounds_toArray, List.set_cons_zero, List.set_cons_succ]
              refine wpAnyH_ready (rs := [7]) (by kernel_rfl) (by simp) ?_
              refine AllReadyH.cons rfl (fun K hK => ?_) AllReadyH.nil
              go_simp
              go_wp2_with fail
              refine (HHD.out W4 hHeld).mono ?_
              rintro e W7 ⟨ah, ch, rfl, hrh, hb⟩
              have hH2 := Below.on hHeld hb
              refine hK.out _ _ hH2 (fun _ => ?_)
              clear hK K hHeld hb
              have hHeld := hH2
              clear hH2
              try simp only [Act.put, List.getElem_toArray, List.getElem_cons_zero, List.getElem_cons_succ, List.setIfInBounds_toArray, List.set_cons_zero, List.set_cons_succ]
              refine wpAnyH_ready (rs := [9]) (by kernel_rfl) (by simp) ?_
              refine AllReadyH.cons rfl (fun K hK => ?_) AllReadyH.nil
              go_simp
              go_wp2_with fail
              refine (samez_any _ _ _ _ _ _ _ _ W7 hrh (HKE.out W7 hHeld).hd).mono ?_
              rintro e W9 ⟨rfl, qk, rfl⟩
              rw [zeq_self]
              have hH2 := Below.on hHeld (below_drewN (Below.refl _ W7) qk)
              refine hK.out _ _ hH2 (fun _ => ?_)
              clear hK K hHeld hrh
              have hHeld := hH2
              clear hH2
              generalize W7.drewN qk = W9 at *
              try simp only [Act.put, List.getElem_toArray, List.getElem_cons_zero, List.getElem_cons_succ, List.setIfInBounds_toArray, List.set_cons_zero, List.set_cons_succ]
              refine wpAnyH_take (i := 10) (v := ?_) rfl (by kernel_rfl) (by kernel_rfl) (by kernel_rfl) (fun _ _ _ h => h) (Or.inl ⟨by kernel_rfl, ?hy10⟩) (by assumption) ?_
              case hy10 => (intro wI hSw; (try dsimp only at hSw); go_simp; try with_reducible rfl)
              try simp only [Act.put, List.getElem_toArray, List.getElem_cons_zero, List.getElem_cons_succ, List.setIfInBounds_toArray, List.set_cons_zero, List.set_cons_succ]
              refine wpAnyH_take (i := 11) (v := ?_) rfl (by kernel_rfl) (by kernel_rfl) (by kernel_rfl) (fun _ _ _ h => h) (Or.inl ⟨by kernel_rfl, ?hy11⟩) (by assumption) ?_
              case hy11 => (intro wI hSw; (try dsimp only at hSw); go_simp; try with_reducible rfl)
              try simp only [Act.put, List.getElem_toArray, List.getElem_cons_zero, List.getElem_cons_succ, List.setIfInBounds_toArray, List.set_cons_zero, List.set_cons_succ]
              refine wpAnyH_take (i := 12) (v := ?_) rfl (by kernel_rfl) (by kernel_rfl) (by kernel_rfl) (fun _ _ _ h => h) (Or.inl ⟨by kernel_rfl, ?hy12⟩) (by assumption) ?_
              case hy12 => (intro wI hSw; (try dsimp only at hSw); go_simp; try with_reducible rfl)
              try simp only [Act.put, List.getElem_toArray, List.getElem_cons_zero, List.getElem_cons_succ, List.setIfInBounds_toArray, List.set_cons_zero, List.set_cons_succ]
              refine wpAnyH_take (i := 13) (v := ?_) rfl (by kernel_rfl) (by kernel_rfl) (by kernel_rfl) (fun _ _ _ h => h) (Or.inl ⟨by kernel_rfl, ?hy13⟩) (by assumption) ?_
              case hy13 => (intro wI hSw; (try dsimp only at hSw); go_simp; try with_reducible rfl)
              try simp only [Act.put, List.getElem_toArray, List.getElem_cons_zero, List.getElem_cons_succ, List.setIfInBounds_toArray, List.set_cons_zero, List.set_cons_succ]
              refine wpAnyH_take (i := 15) (v := ?_) rfl (by kernel_rfl) (by kernel_rfl) (by kernel_rfl) (fun _ _ _ h => h) (Or.inl ⟨by kernel_rfl, ?hy15⟩) (by assumption) ?_
              case hy15 => (intro wI hSw; (try dsimp only at hSw); have t0 := (HKE.out _ hSw).lt; have t1 := (HKE.out _ hSw).n0; have t2 := (HKE.out _ hSw).n1; have t3 := (HKE.out _ hSw).n2; have t4 := (HKE.out _ hSw).n3; have t5 := (HKE.out _ hSw).n4; have t6 := (HKE.out _ hSw).n5; have t7 := (HKE.out _ hSw).n6; have t8 := (HKE.out _ hSw).n7; have t9 := (HKE.out _ hSw).n8; have t10 := (HKE.out _ hSw).n9; go_simp; try with_reducible rfl)
              try simp only [Act.put, List.getElem_toArray, List.getElem_cons_zero, List.getElem_cons_succ, List.setIfInBounds_toArray, List.set_cons_zero, List.set_cons_succ]
              refine wpAnyH_ready (rs := [14]) (by kernel_rfl) (by simp) ?_
              refine AllReadyH.cons rfl (fun K hK => ?_) AllReadyH.nil
              go_simp
              go_wp2_with fail
              refine (HCU.out W9 hHeld).mono ?_
              rintro e W14 ⟨x, rfl, hxo, _, hxq, hb⟩
              have hH2 := Below.on hHeld hb
              refine hK.out _ _ hH2 (fun _ => ?_)
              clear hK K hHeld hb
              have hHeld := hH2
              clear hH2
              try simp only [Act.put, List.getElem_toArray, List.getElem_cons_zero, List.getElem_cons_succ, List.setIfInBounds_toArray, List.set_cons_zero, List.set_cons_succ]
              refine wpAnyH_ready (rs := [16]) (by kernel_rfl) (by simp) ?_
              refine AllReadyH.cons rfl (fun K hK => ?_) AllReadyH.nil
              go_simp
              go_wp2_with fail
              refine (HSM.out x W14 hHeld hxo hxq).mono ?_
              rintro e W16 ⟨rfl, hb⟩
              clear hxo hxq
              have hH2 := Below.on hHeld hb
              refine hK.out _ _ hH2 (fun _ => ?_)
              clear hK K hHeld hb
              have hHeld := hH2
              clear hH2
              try simp only [Act.put, List.getElem_toArray, List.getElem_cons_zero, List.getElem_cons_succ, List.setIfInBounds_toArray, List.set_cons_zero, List.set_cons_succ]
              refine wpAnyH_take (i := 17) (v := ?_) rfl (by kernel_rfl) (by kernel_rfl) (by kernel_rfl) (fun _ _ _ h => h) (Or.inl ⟨by kernel_rfl, ?hy17⟩) (by assumption) ?_
              case hy17 => (intro wI hSw; (try dsimp only at hSw); go_simp; try with_reducible rfl)
              try simp only [Act.put, List.getElem_toArray, List.getElem_cons_zero, List.getElem_cons_succ, List.setIfInBounds_toArray, List.set_cons_zero, List.set_cons_succ]
              refine wpAnyH_take (i := 18) (v := ?_) rfl (by kernel_rfl) (by kernel_rfl) (by kernel_rfl) (fun _ _ _ h => h) (Or.inl ⟨by kernel_rfl, ?hy18⟩) (by assumption) ?_
              case hy18 => (intro wI hSw; (try dsimp only at hSw); go_simp; try with_reducible rfl)
              try simp only [Act.put, List.getElem_toArray, List.getElem_cons_zero, List.getElem_cons_succ, List.setIfInBounds_toArray, List.set_cons_zero, List.set_cons_succ]
              refine wpAnyH_ready (rs := [19]) (by kernel_rfl) (by simp) ?_
              refine AllReadyH.cons rfl (fun K hK => ?_) AllReadyH.nil
              go_simp
              go_wp2_with fail
              refine (AW.out W16 (Below.on HBU.out hHeld)).mono ?_
              rintro e W19 ⟨rfl, hb⟩
              have hH2 := Below.on hHeld hb
              refine hK.out _ _ hH2 (fun _ => ?_)
              clear hK K hHeld hb
              have hHeld := hH2
              clear hH2
              try simp only [Act.put, List.getElem_toArray, List.getElem_cons_zero, List.getElem_cons_succ, List.setIfInBounds_toArray, List.set_cons_zero, List.set_cons_succ]
              refine wpAnyH_take (i := 20) (v := ?_) rfl (by kernel_rfl) (by kernel_rfl) (by kernel_rfl) (fun _ _ _ h => h) (Or.inl ⟨by kernel_rfl, ?hy20⟩) (by assumption) ?_
              case hy20 => (intro wI hSw; (try dsimp only at hSw); go_simp; try with_reducible rfl)
              try simp only [Act.put, List.getElem_toArray, List.getElem_cons_zero, List.getElem_cons_succ, List.setIfInBounds_toArray, List.set_cons_zero, List.set_cons_succ]
              refine wpAnyH_take (i := 21) (v := ?_) rfl (by kernel_rfl) (by kernel_rfl) (by kernel_rfl) (fun _ _ _ h => h) (Or.inl ⟨by kernel_rfl, ?hy21⟩) (by assumption) ?_
              case hy21 => (intro wI hSw; (try dsimp only at hSw); go_simp; try with_reducible rfl)
              try simp only [Act.put, List.getElem_toArray, List.getElem_cons_zero, List.getElem_cons_succ, List.setIfInBounds_toArray, List.set_cons_zero, List.set_cons_succ]
              refine wpAnyH_done (by kernel_rfl) ?_ _
              have HH := hid hHeld
              clear hHeld
              go_wp2
              go_ret
              exact ⟨rfl, Below.on HBU.out HH.out⟩

theorem walk (a : Option Addr) (n c : Nat) (s1 : Option Addr) (m k1 : Nat) (id : Int) (w : World) (hr : RdQ w a n c) (hs : RdQ w s1 m k1) (hi : (Lit.int .i64 id).wf = true) (hL : laidMetH Tryz.prog Rows.forestUnseenRow.laid w) :
    Calls Tryz.prog 4 #[.slice a n c, .slice s1 m k1, .int .i64 id] w fun e w' => e = .returned (.bool true) ∧ Below w.heap.size w w' := by
  obtain ⟨es, hE⟩ := errs16 hL
  exact core a n c s1 m k1 id w hr hs (i64_rangeQ hi) es hE
end Go.Proofs.YtdgknofpkafppaaGreatDoor.forestUnseen
