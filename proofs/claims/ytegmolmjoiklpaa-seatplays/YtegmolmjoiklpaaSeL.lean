/- The law's few, walked. -/
import Derived.Test.YtegmolmjoiklpaaSeK
namespace Go.Proofs.Ytegmolmjoiklpaa
open Go Go.RowKit Go.Shelf

/-- What is the same of two rows of lists. -/
def rcl (L : List Rw) : List (List Ht) := L.map fun r => r.l.map Ht.cl
/-- What few answers. -/
def FewR (w w' : World) (L : List Rw) (e : Ending) : Prop := RowKit.Below w.heap.size w w' ∧ (e = .returned (.tuple #[.slice none 0 0, .bool false]) ∨ ∃ a c L', e = .returned (.tuple #[.slice a L.length c, .bool true]) ∧ L'.length = L.length ∧ L.length ≤ 6 ∧ RdR w' a L.length c L' ∧ rcl L' = rcl L)
theorem take_rcl {L : List Rw} {j : Nat} {r : Rw} (h : L[j]? = some r) : rcl (L.take (j + 1)) = rcl (L.take j) ++ [r.l.map Ht.cl] := by
  rw [List.take_add_one, h, rcl, List.map_append]
  rfl
theorem take_mcl {l : List Ht} {j : Nat} {x : Ht} (h : l[j]? = some x) : (l.take (j + 1)).map Ht.cl = (l.take j).map Ht.cl ++ [x.cl] := by
  rw [List.take_add_one, h, List.map_append]
  rfl

theorem own_ty {u : World} {base e size n : Nat} {a : Option Addr} {m c : Nat} {xs : List Value} (h : u.ownsRow base e size (.slice a m c) n xs) : ∀ x, a = some x → ∃ cs f, u.heap[x.block]? = some (.cells cs e f) := fun x hx => by
  rcases h.2 with ⟨e1, _⟩ | ⟨g, cap, cur, e1, _, hg, _⟩
  · cases e1
    cases hx
  · cases e1
    cases hx
    exact ⟨_, _, hg⟩
set_option maxRecDepth 100000 in
set_option maxHeartbeats 4000000 in
theorem few_any (a : Option Addr) (n c : Nat) (L : List Rw) (w : World) (h : RdR w a n c L) :
    Calls Try.prog 7 #[.slice a n c] w fun e w' => FewR w w' L e := by
  obtain ⟨i0, hi, hz0, hz1, hz2⟩ := infoSP infoHit
  obtain ⟨i1, hi1, hy0, hy1, hy2⟩ := infoSP infoHits
  have hs := h.small
  have HL := hid h.len
  have H := hid h
  clear h
  go_enter Try.func7, Try.ntmps7
  go_wp2
  go_loopw [4, 5] (fun v i wr => ∃ (j : Nat) (Lp : List Rw), i = .int .i64 j ∧ j ≤ n ∧ (j = 0 ∨ n ≤ 6) ∧ Lp.length = j ∧ OwR w wr v Lp ∧ rcl Lp = rcl (L.take j)) (fun _ i _ => n - (numOf i).toNat)
  case atStart => exact ⟨0, [], rfl, by omega, .inl rfl, rfl, OwR.nil w, rfl⟩
  case round =>
    obtain ⟨j, Lp, rfl, hj, hj6, hlp, hO, hcl⟩ := hrel
    obtain ⟨W0, rfl⟩ : ∃ W0, W0 = wr := ⟨_, rfl⟩
    have HO := hid hO
    have HCL := hid hcl
    have HLP := hid hlp
    clear hO hcl hlp
    by_cases hgo : j < n
    · have e1 : decide ((j : Int) < (n : Int)) = true := decide_eq_true (by omega)
      have e3 : (j : Int) < (n : Int) := by omega
      by_cases hn6 : n ≤ 6
      · obtain ⟨b, off, ⟨ra, rn, rc, rl⟩, rfl, hb, hr, hrd, c0⟩ := (H.out.on HO.out.bel).at_ hgo
        simp only at hrd c0
        have e4 : decide ((6 : Int) < (n : Int)) = false := decide_eq_false (by omega)
        have HR := hid hr
        have HRD := hid hrd
        have hrs := hrd.small
        have HRL := hid hrd.len
        clear hr hrd
        by_cases hr12 : rn ≤ 12
        · have e5 : decide ((12 : Int) < (rn : Int)) = false := decide_eq_false (by omega)
          go_wp2
          go_loopw [6, 7] (fun v i wx => ∃ (k : Nat) (hl : List Ht), i = .int .i64 k ∧ k ≤ rn ∧ hl.length = k ∧ OwH W0 wx v hl ∧ hl.map Ht.cl = (rl.take k).map Ht.cl) (fun _ i _ => rn - (numOf i).toNat)
          case atStart => exact ⟨0, [], rfl, by omega, rfl, OwH.nil W0, rfl⟩
          case round =>
            obtain ⟨k, hl, rfl, hk, hlk, hOh, hck⟩ := hrel
            have HOH := hid hOh
            have HCK := hid hck
            have HLK := hid hlk
            have c1 : wr.cell? ⟨b, off + j, none⟩ = some (.slice ra rn rc) := by rw [hOh.bel.cell hb]; exact c0
            clear hOh hck hlk
            by_cases hgo2 : k < rn
            · have e6 : decide ((k : Int) < (rn : Int)) = true := decide_eq_true (by omega)
              have e7 : (k : Int) < (rn : Int) := by omega
              obtain ⟨b2, off2, x, hra, hb2, hx, hok, hrg, hcx⟩ := (HRD.out.on HOH.out.bel).at_ hgo2
              obtain ⟨d0, d1, d2, d3, d4, d5, d6⟩ := hcx
              subst hra
              have HX := hid hx
              have HOK := hid hok
              have HXL := hid hrg.len
              have hxs := hrg.small
              obtain ⟨g, hg⟩ : ∃ g, g = wr.heap.size := ⟨_, rfl⟩
              obtain ⟨W3, hW3⟩ : ∃ W3, W3 = wr.alloc (.cells (htv x) 66) := ⟨_, rfl⟩
              have hbox : W3.heap[g]? = some (.cells (htv x) 66 (0, 0)) := by rw [hW3, hg]; exact hp_nw wr _ rfl
              have hb3 : RowKit.Below wr.heap.size wr W3 := by rw [hW3]; exact bel_nw wr _
              have HO3 := hid (HOH.out.on hb3)
              have HG3 := hid (hrg.on hb3)
              obtain ⟨f0, f1, f2, f3, f4, f5, f6⟩ := hcells hbox
              have HBX := hid hbox
              have HW3 := hid hW3
              simp only [htv] at hW3
              clear hx hok hrg hbox hb3
              go_upto_region 12 with fail
              rw [← hW3, ← hg]
              have HBW : Hid (RowKit.Below w.heap.size w W3) := Below.on HO.out.bel HO3.out.bel
              clear d0 d1 d2 d3 d4 d5 d6 c1 hW3 hg HW3
              by_cases hx12 : x.n ≤ 12
              · have e8 : decide ((12 : Int) < (x.n : Int)) = false := decide_eq_false (by omega)
                have CR : Hid (∀ u : World, RowKit.Below W3.heap.size W3 u → Calls Try.prog 25 #[.slice x.a x.n x.c] u fun e w' => ∃ v, e = .returned v ∧ OwM 4 59 u w' v x.l) := fun u hu => lrects_any x.a x.n x.c x.l u (HG3.out.on hu) (by omega)
                have hb0 : RowKit.Below W3.heap.size W3 W3.drew := (Below.refl _ _).drew
                have hO0 : OwH W0 W3.drew u6 hl := HO3.out.on hb0
                have hX0 : W3.drew.heap[g]? = some (.cells (htv x) 66 (0, 0)) := HBX.out
                have hlk : hl.length ≤ 12 := by rw [HLK.out]; omega
                go_wp2
                clear f0 f1 f2 f3 f4 f5 f6
                refine wp_region_held_drew (S := fun u => u.heap[g]? = some (.cells (htv x) 66 (0, 0))) (by kernel_rfl) ?hh (fun hHeld => ?_)
                case hh => exact (hX0)
                refine wpAnyH_take (i := 0) (v := ?_) rfl (by kernel_rfl) (by kernel_rfl) (by kernel_rfl) (fun _ _ _ h => h) (Or.inl ⟨by kernel_rfl, ?hy0⟩) (by assumption) ?_
                case hy0 => (intro w hSw; (try dsimp only at hSw); obtain ⟨f0, f1, f2, f3, f4, f5, f6⟩ := hcells hSw; go_simp; try with_reducible rfl)
                try simp only [Act.put, List.getElem_toArray, List.getElem_cons_zero, List.setIfInBounds_toArray, List.set_cons_zero, List.set_cons_succ]
                refine wpAnyH_take (i := 1) (v := ?_) rfl (by kernel_rfl) (by kernel_rfl) (by kernel_rfl) (fun _ _ _ h => h) (Or.inl ⟨by kernel_rfl, ?hy1⟩) (by assumption) ?_
                case hy1 => (intro w hSw; (try dsimp only at hSw); obtain ⟨f0, f1, f2, f3, f4, f5, f6⟩ := hcells hSw; go_simp; try with_reducible rfl)
                try simp only [Act.put, List.getElem_toArray, List.getElem_cons_zero, List.getElem_cons_succ, List.setIfInBounds_toArray, List.set_cons_zero, List.set_cons_succ]
                refine wpAnyH_take (i := 2) (v := ?_) rfl (by kernel_rfl) (by kernel_rfl) (by kernel_rfl) (fun _ _ _ h => h) (Or.inl ⟨by kernel_rfl, ?hy2⟩) (by assumption) ?_
                case hy2 => (intro w hSw; (try dsimp only at hSw); obtain ⟨f0, f1, f2, f3, f4, f5, f6⟩ := hcells hSw; go_simp; try with_reducible rfl)
                try simp only [Act.put, List.getElem_toArray, List.getElem_cons_zero, List.getElem_cons_succ, List.setIfInBounds_toArray, List.set_cons_zero, List.set_cons_succ]
                refine wpAnyH_take (i := 3) (v := ?_) rfl (by kernel_rfl) (by kernel_rfl) (by kernel_rfl) (fun _ _ _ h => h) (Or.inl ⟨by kernel_rfl, ?hy3⟩) (by assumption) ?_
                case hy3 => (intro w hSw; (try dsimp only at hSw); obtain ⟨f0, f1, f2, f3, f4, f5, f6⟩ := hcells hSw; go_simp; try with_reducible rfl)
                try simp only [Act.put, List.getElem_toArray, List.getElem_cons_zero, List.getElem_cons_succ, List.setIfInBounds_toArray, List.set_cons_zero, List.set_cons_succ]
                refine wpAnyH_take (i := 4) (v := ?_) rfl (by kernel_rfl) (by kernel_rfl) (by kernel_rfl) (fun _ _ _ h => h) (Or.inl ⟨by kernel_rfl, ?hy4⟩) (by assumption) ?_
                case hy4 => (intro w hSw; (try dsimp only at hSw); obtain ⟨f0, f1, f2, f3, f4, f5, f6⟩ := hcells hSw; go_simp; try with_reducible rfl)
                try simp only [Act.put, List.getElem_toArray, List.getElem_cons_zero, List.getElem_cons_succ, List.setIfInBounds_toArray, List.set_cons_zero, List.set_cons_succ]
                refine wpAnyH_take (i := 5) (v := ?_) rfl (by kernel_rfl) (by kernel_rfl) (by kernel_rfl) (fun _ _ _ h => h) (Or.inl ⟨by kernel_rfl, ?hy5⟩) (by assumption) ?_
                case hy5 => (intro w hSw; (try dsimp only at hSw); obtain ⟨f0, f1, f2, f3, f4, f5, f6⟩ := hcells hSw; go_simp; try with_reducible rfl)
                try simp only [Act.put, List.getElem_toArray, List.getElem_cons_zero, List.getElem_cons_succ, List.setIfInBounds_toArray, List.set_cons_zero, List.set_cons_succ]
                refine wpAnyH_take (i := 6) (v := ?_) rfl (by kernel_rfl) (by kernel_rfl) (by kernel_rfl) (fun _ _ _ h => h) (Or.inl ⟨by kernel_rfl, ?hy6⟩) (by assumption) ?_
                case hy6 => (intro w hSw; (try dsimp only at hSw); obtain ⟨f0, f1, f2, f3, f4, f5, f6⟩ := hcells hSw; go_simp; try with_reducible rfl)
                try simp only [Act.put, List.getElem_toArray, List.getElem_cons_zero, List.getElem_cons_succ, List.setIfInBounds_toArray, List.set_cons_zero, List.set_cons_succ]
                refine wpAnyH_take (i := 7) (v := ?_) rfl (by kernel_rfl) (by kernel_rfl) (by kernel_rfl) (fun _ _ _ h => h) (Or.inl ⟨by kernel_rfl, ?hy7⟩) (by assumption) ?_
                case hy7 => (intro w hSw; (try dsimp only at hSw); obtain ⟨f0, f1, f2, f3, f4, f5, f6⟩ := hcells hSw; go_simp; try with_reducible rfl)
                try simp only [Act.put, List.getElem_toArray, List.getElem_cons_zero, List.getElem_cons_succ, List.setIfInBounds_toArray, List.set_cons_zero, List.set_cons_succ]
                refine wpAnyH_take (i := 8) (v := ?_) rfl (by kernel_rfl) (by kernel_rfl) (by kernel_rfl) (fun _ _ _ h => h) (Or.inl ⟨by kernel_rfl, ?hy8⟩) (by assumption) ?_
                case hy8 => (intro w hSw; (try dsimp only at hSw); obtain ⟨f0, f1, f2, f3, f4, f5, f6⟩ := hcells hSw; go_simp; try with_reducible rfl)
                try simp only [Act.put, List.getElem_toArray, List.getElem_cons_zero, List.getElem_cons_succ, List.setIfInBounds_toArray, List.set_cons_zero, List.set_cons_succ]
                refine wpAnyH_take (i := 9) (v := ?_) rfl (by kernel_rfl) (by kernel_rfl) (by kernel_rfl) (fun _ _ _ h => h) (Or.inl ⟨by kernel_rfl, ?hy9⟩) (by assumption) ?_
                case hy9 => (intro w hSw; (try dsimp only at hSw); obtain ⟨f0, f1, f2, f3, f4, f5, f6⟩ := hcells hSw; go_simp; try with_reducible rfl)
                try simp only [Act.put, List.getElem_toArray, List.getElem_cons_zero, List.getElem_cons_succ, List.setIfInBounds_toArray, List.set_cons_zero, List.set_cons_succ]
                refine wpAnyH_take (i := 10) (v := ?_) rfl (by kernel_rfl) (by kernel_rfl) (by kernel_rfl) (fun _ _ _ h => h) (Or.inl ⟨by kernel_rfl, ?hy10⟩) (by assumption) ?_
                case hy10 => (intro w hSw; (try dsimp only at hSw); obtain ⟨f0, f1, f2, f3, f4, f5, f6⟩ := hcells hSw; go_simp; try with_reducible rfl)
                try simp only [Act.put, List.getElem_toArray, List.getElem_cons_zero, List.getElem_cons_succ, List.setIfInBounds_toArray, List.set_cons_zero, List.set_cons_succ]
                refine wpAnyH_take (i := 11) (v := ?_) rfl (by kernel_rfl) (by kernel_rfl) (by kernel_rfl) (fun _ _ _ h => h) (Or.inl ⟨by kernel_rfl, ?hy11⟩) (by assumption) ?_
                case hy11 => (intro w hSw; (try dsimp only at hSw); obtain ⟨f0, f1, f2, f3, f4, f5, f6⟩ := hcells hSw; go_simp; try with_reducible rfl)
                try simp only [Act.put, List.getElem_toArray, List.getElem_cons_zero, List.getElem_cons_succ, List.setIfInBounds_toArray, List.set_cons_zero, List.set_cons_succ]
                refine wpAnyH_take (i := 12) (v := ?_) rfl (by kernel_rfl) (by kernel_rfl) (by kernel_rfl) (fun _ _ _ h => h) (Or.inl ⟨by kernel_rfl, ?hy12⟩) (by assumption) ?_
                case hy12 => (intro w hSw; (try dsimp only at hSw); obtain ⟨f0, f1, f2, f3, f4, f5, f6⟩ := hcells hSw; go_simp; try with_reducible rfl)
                try simp only [Act.put, List.getElem_toArray, List.getElem_cons_zero, List.getElem_cons_succ, List.setIfInBounds_toArray, List.set_cons_zero, List.set_cons_succ]
                refine wpAnyH_take (i := 13) (v := ?_) rfl (by kernel_rfl) (by kernel_rfl) (by kernel_rfl) (fun _ _ _ h => h) (Or.inl ⟨by kernel_rfl, ?hy13⟩) (by assumption) ?_
                case hy13 => (intro w hSw; (try dsimp only at hSw); obtain ⟨f0, f1, f2, f3, f4, f5, f6⟩ := hcells hSw; go_simp; try with_reducible rfl)
                try simp only [Act.put, List.getElem_toArray, List.getElem_cons_zero, List.getElem_cons_succ, List.setIfInBounds_toArray, List.set_cons_zero, List.set_cons_succ]
                refine wpAnyH_take (i := 14) (v := ?_) rfl (by kernel_rfl) (by kernel_rfl) (by kernel_rfl) (fun _ _ _ h => h) (Or.inl ⟨by kernel_rfl, ?hy14⟩) (by assumption) ?_
                case hy14 => (intro w hSw; (try dsimp only at hSw); obtain ⟨f0, f1, f2, f3, f4, f5, f6⟩ := hcells hSw; go_simp; try with_reducible rfl)
                try simp only [Act.put, List.getElem_toArray, List.getElem_cons_zero, List.getElem_cons_succ, List.setIfInBounds_toArray, List.set_cons_zero, List.set_cons_succ]
                refine wpAnyH_ready (rs := [15]) (by kernel_rfl) (by simp) ?_
                refine AllReadyH.cons rfl (fun K hK => ?_) AllReadyH.nil
                generalize W3.drew = V0 at hb0 hO0 hX0 hHeld hK ⊢
                go_simp
                go_wp2_with fail
                refine (CR.out _ hb0).mono ?_
                rintro e u2 ⟨vr, rfl, hor⟩
                have hO2 := hO0.on hor.bel
                have hX2 := (hor.bel.block _ (Array.getElem?_eq_some_iff.1 hHeld).1).trans hHeld
                have hb2 := Below.on hb0 hor.bel
                obtain ⟨ya, yc, rfl, hyr, _⟩ := hor.rd
                have hyt := own_ty hor.own
                refine hK.out _ _ hX2 (fun _ => ?_)
                clear hK K hHeld hO0 hX0 hb0 hor
                have hHeld := hX2
                clear hX2
                refine wpAnyH_take (i := 16) (v := ?_) rfl (by kernel_rfl) (by kernel_rfl) (by kernel_rfl) (fun _ _ _ h => h) (Or.inl ⟨by kernel_rfl, ?hy16⟩) (by assumption) ?_
                case hy16 => (intro w hSw; (try dsimp only at hSw); obtain ⟨f0, f1, f2, f3, f4, f5, f6⟩ := hcells hSw; go_simp; try with_reducible rfl)
                try simp only [Act.put, List.getElem_toArray, List.getElem_cons_zero, List.getElem_cons_succ, List.setIfInBounds_toArray, List.set_cons_zero, List.set_cons_succ]
                refine wpAnyH_ready (rs := [17]) (by kernel_rfl) (by simp) ?_
                refine AllReadyH.cons rfl (fun K hK => ?_) AllReadyH.nil
                obtain ⟨y, hy⟩ : ∃ y : Ht, y = { x with a := ya, n := x.l.length, c := yc } := ⟨_, rfl⟩
                have hsr := src_hit u2 y
                have hon := hO2.on (bel_nw u2 (.cells (htv y) 61))
                have hX3 := hp_ol hHeld (.cells (htv y) 61)
                have HYV := hid hy
                rw [hy] at hsr hon hX3
                simp only [htv] at hsr hon
                go_simp
                refine hK.out _ _ (by simpa only [htv] using hX3) (fun _ => ?_)
                clear hK K hHeld
                have hHeld := hX3
                clear hX3
                refine wpAnyH_ready (rs := [18]) (by kernel_rfl) (by simp) ?_
                refine AllReadyH.cons rfl (fun K hK => ?_) AllReadyH.nil
                refine step_appP _ (by kernel_rfl) (.tmp 46) (.tmp 63) 39 39 rfl W0.heap.size 61 i0 (.agg #[.int .i64 0, .int .i64 0, .int .i64 0, .int .i64 0, .int .i64 0, .bool false, .slice none 0 0]) 7 72 Try.underlying39 hi hz0 hz1 hz2 rfl _ _ _ rfl hon.own _ _ _ rfl hsr (by simp only [maxLen]; omega) (fits72 (by omega)) (hon.bel.size) ?_
                intro v4 w4 o4 g4 _
                have hX4 := grown_at g4 hHeld (own_not hon.own hHeld (by decide))
                refine hK.out _ _ hX4 (fun _ => ?_)
                clear hK K hHeld
                refine wpAnyH_take (i := 19) (v := ?_) rfl (by kernel_rfl) (by kernel_rfl) (by kernel_rfl) (fun _ _ _ h => h) (Or.inl ⟨by kernel_rfl, ?hy19⟩) (by assumption) ?_
                case hy19 => (intro w hSw; (try dsimp only at hSw); obtain ⟨f0, f1, f2, f3, f4, f5, f6⟩ := hcells hSw; go_simp; try with_reducible rfl)
                try simp only [Act.put, List.getElem_toArray, List.getElem_cons_zero, List.getElem_cons_succ, List.setIfInBounds_toArray, List.set_cons_zero, List.set_cons_succ]
                refine wpAnyH_done (by kernel_rfl) ?_ _
                have hrg : Rg u2 y := by
                  rw [HYV.out]
                  exact ⟨hyr, fun q hq _ => hyt q hq, ⟨HOK.out.s, HOK.out.x, HOK.out.y, HOK.out.w, HOK.out.h, HOK.out.l⟩⟩
                have HO4 := hid (hO2.more hrg (by rw [HYV.out]; exact o4) g4)
                have HC4 : Hid ((hl ++ [y]).map Ht.cl = (rl.take (k + 1)).map Ht.cl) := by
                  rw [Hid, take_mcl HX.out, List.map_append, HCK.out, HYV.out]
                  rfl
                clear hrg o4 g4 hO2 hX4 hyt hyr hsr hon hb2
                go_wp2
                go_roundw
                case rel => exact ⟨k + 1, hl ++ [y], by go_num, by omega, by rw [List.length_append, HLK.out]; rfl, HO4.out, HC4.out⟩
                case measure => simp [numOf]; omega
              · have e8 : decide ((12 : Int) < (x.n : Int)) = true := decide_eq_true (by omega)
                go_wp2
                go_ret2
                exact ⟨HBW.out, .inl rfl⟩
            · have e6 : decide ((k : Int) < (rn : Int)) = false := decide_eq_false (by omega)
              have hk' : k = rn := by omega
              obtain ⟨ya, yc, rfl, hrh⟩ := HOH.out.rh
              have HRH := hid hrh
              have HOR := hid (HO.out.on HOH.out.bel)
              have HSR := hid (src_row wr ya hl.length yc)
              have HOW := hid (ownsRow_below HOR.out.own (bel_nw wr (.cells #[.slice ya hl.length yc] 39)))
              have hsz2 : w.heap.size ≤ (wr.alloc (.cells #[.slice ya hl.length yc] 39)).heap.size := by have := HOR.out.bel.size; rw [World.size_alloc]; omega
              have hLp : Lp.length ≤ 6 := by rw [HLP.out]; omega
              have HC5 : Hid (rcl (Lp ++ [⟨ya, hl.length, yc, hl⟩]) = rcl (L.take (j + 1))) := by
                have h1 := HCK.out
                rw [List.take_of_length_le (by rw [HRL.out]; omega)] at h1
                rw [Hid, take_rcl HR.out, rcl, List.map_append]
                show rcl Lp ++ [hl.map Ht.cl] = _
                rw [HCL.out, h1]
              clear hrh hk'
              go_wp2_with (at_builtin; refine wpList_append_own_src _ rfl (.tmp 65) (.tmp 67) 24 24 rfl w.heap.size 39 i1 (.slice none 0 0) 1 24 Try.underlying24 hi1 hy0 hy1 hy2 rfl _ _ _ rfl HOW.out _ _ _ rfl HSR.out (by simp only [maxLen]; omega) (fitsM (by omega) (by decide)) hsz2 ?_; intro v5 w5 o5 g5; have HO5 := hid o5; have HG5 := hid g5; clear o5 g5)
              have HO6 := hid (HOR.out.more HRH.out HO5.out HG5.out)
              clear HO5 HG5
              go_roundw
              case rel => exact ⟨j + 1, Lp ++ [⟨ya, hl.length, yc, hl⟩], by go_num, by omega, .inr hn6, by rw [List.length_append, HLP.out]; rfl, HO6.out, HC5.out⟩
              case measure => simp [numOf]; omega
        · have e5 : decide ((12 : Int) < (rn : Int)) = true := decide_eq_true (by omega)
          go_wp2
          go_ret2
          exact ⟨HO.out.bel, .inl rfl⟩
      · have e4 : decide ((6 : Int) < (n : Int)) = true := decide_eq_true (by omega)
        go_wp2
        go_ret2
        exact ⟨HO.out.bel, .inl rfl⟩
    · have e1 : decide ((j : Int) < (n : Int)) = false := decide_eq_false (by omega)
      obtain ⟨ya, yc, rfl, hrr⟩ := HO.out.rdr
      have hjn : j = n := by omega
      have hLn : Lp.length = L.length := by rw [HLP.out, HL.out]; omega
      have HRR := hid hrr
      have HLN := hid hLn
      clear hrr hLn
      go_wp2
      go_ret2
      refine ⟨HO.out.bel, .inr ⟨ya, yc, Lp, (by rw [← HLN.out]; rfl), HLN.out, by rw [HL.out]; omega, by rw [← HLN.out]; exact HRR.out, ?_⟩⟩
      rw [HCL.out, List.take_of_length_le (by rw [HL.out]; omega)]
end Go.Proofs.Ytegmolmjoiklpaa
