/- The document's Area, Cover, Shift. -/
import Derived.Test.YtlkodgmnhphfcaaRgfH
namespace Go.Proofs.Ytlkodgmnhphfcaa
open Go Go.RowKit

theorem rgn_nil : rgn [] = true := rgn_iff.2 reg_nil


set_option maxRecDepth 100000 in
set_option maxHeartbeats 1000000 in
theorem rcovers_any (a : Option Addr) (n c : Nat) (l : List Rc) (w : World) (h : RdC w a n c l) (hn : n ≤ 4096) :
    Calls Try.prog 48 #[.slice a n c] w fun e w' => ∃ r, r = (if rgn l = true then cvl l else rz) ∧ e = .returned (.agg #[.int .i64 r.x, .int .i64 r.y, .int .i64 r.w, .int .i64 r.h]) ∧ Below w.heap.size w w' := by
  have H := hid h
  have HL := hid h.len
  have hs := h.small
  have CK := hid (fun u hu => rregcheck_any a n c l u hu hn)
  have HT : Hid (Tw w ((w.alloc (ob rz)).alloc (ob rz)) rz rz) := by
    obtain ⟨h1, h2, h3⟩ := box2 rz rz (Below.refl ((w.alloc (ob rz)).alloc (ob rz)).heap.size ((w.alloc (ob rz)).alloc (ob rz)))
    exact ⟨h1, h2, h3⟩
  clear h
  cases hr0 : rgn l
  · rw [hr0] at CK
    have hn0 : 0 < n := by
      rcases Nat.eq_zero_or_pos n with h0 | h0
      · have : l = [] := List.eq_nil_of_length_eq_zero (by rw [HL.out]; exact h0)
        rw [this, rgn_nil] at hr0
        cases hr0
      · exact h0
    go_enter Try.func48, Try.ntmps48
    go_wp2
    go_loopw [4] (fun s4 wr => s4 = .int .i64 0 ∧ Tw w wr rz rz) (fun _ _ => 0)
    case atStart => exact ⟨rfl, HT.out⟩
    case round =>
      obtain ⟨rfl, hT⟩ := hrel
      have HT2 := hid hT
      clear hT HT
      have e1 : decide (0 < (n : Int)) = true := decide_eq_true (by omega)
      have e2 : decide (0 < n) = true := decide_eq_true hn0
      go_wp2_with fail
      refine (CK.out _ (H.out.on HT2.out.bel)).mono ?_
      rintro e w2 ⟨rfl, hb2⟩
      have hT3 := HT2.out.on hb2
      obtain ⟨c0, c1, c2, c3⟩ := hT3.snd.all
      obtain ⟨d0, d1, d2, d3⟩ := hT3.fst.all
      have fz := hT3.fst.fz
      have HT3 := hid hT3
      clear hT3 hb2
      go_wp2
      refine bodyPost_ret (results_cell_row rfl _ _ w.heap.size _ _ _ _ rfl (HT3.out.fst.st rz).obj Try.underlying36 rfl infoR) rfl ?_
      exact ⟨rfl, below_st HT3.out.bel (Nat.le_refl _) rz⟩
  · rw [hr0] at CK
    have KC := hid (rgn_iff.1 hr0).ck
    go_enter Try.func48, Try.ntmps48
    go_wp2
    go_loopw [4] (fun s4 wr => ∃ j : Nat, s4 = .int .i64 j ∧ j ≤ n ∧ Tw w wr rz (cvl (l.take j))) (fun s4 _ => n - (numOf s4).toNat)
    case atStart => exact ⟨0, rfl, by omega, HT.out⟩
    case round =>
      obtain ⟨j, rfl, hj, hT⟩ := hrel
      have HT2 := hid hT
      clear hT HT
      by_cases hgo : j < n
      · have e1 : decide ((j : Int) < n) = true := decide_eq_true (by omega)
        have e2 : (j : Int) < n := by omega
        obtain ⟨r, hr⟩ : ∃ r, l[j]? = some r := ⟨_, List.getElem?_eq_getElem (by rw [HL.out]; exact hgo)⟩
        have k := KC.out r (List.mem_of_getElem? hr)
        have hA := cvl_ck (l := l.take j) (fun x hx => KC.out x (List.mem_of_mem_take hx))
        have HS := hid (cvl_snoc hr)
        generalize cvl (l.take j) = A0 at hA HT2 HS
        have CV := hid (fun u => rcover_any A0 r (may_of hA) (may_of (.inr k)) u)
        have HR := hid hr
        clear hr k hA
        go_wp2_with fail
        refine (CK.out _ (H.out.on HT2.out.bel)).mono ?_
        rintro e w2 ⟨rfl, hb2⟩
        have HT3 := hid (HT2.out.on hb2)
        obtain ⟨b, off, r', hbo, _, hr', _, he⟩ := (H.out.on HT3.out.bel).el hgo
        rw [HR.out] at hr'
        cases hr'
        subst hbo
        obtain ⟨_, c0, c1, c2, c3⟩ := he
        obtain ⟨d0, d1, d2, d3⟩ := HT3.out.snd.all
        clear hb2 HT2
        go_upto_region 5 with fail
        go_region_with (go_at_call 58; refine (CV.out _).mono ?_; rintro e u ⟨rfl, hb⟩; have hT5 := HT3.out.on (Below.on (Below.refl _ _).drew hb); obtain ⟨g0, g1, g2, g3⟩ := hT5.snd.all; have fz := hT5.snd.fz)
        all_goals
          have HT6 := hid (hT5.st2 (cov A0 r))
          go_wp2
          go_roundw
          case rel => exact ⟨j + 1, by go_num, by omega, by rw [HS.out]; exact HT6.out⟩
          case measure => simp [numOf]; omega
      · have e1 : decide ((j : Int) < n) = false := decide_eq_false (by omega)
        have HE : Hid (l.take j = l) := List.take_of_length_le (by rw [HL.out]; omega)
        rw [HE.out] at HT2
        obtain ⟨c0, c1, c2, c3⟩ := HT2.out.snd.all
        obtain ⟨d0, d1, d2, d3⟩ := HT2.out.fst.all
        have fz := HT2.out.fst.fz
        go_wp2
        refine bodyPost_ret (results_cell_row rfl _ _ w.heap.size _ _ _ _ rfl (HT2.out.fst.st (cvl l)).obj Try.underlying36 rfl infoR) rfl ?_
        exact ⟨rfl, below_st HT2.out.bel (Nat.le_refl _) (cvl l)⟩
end Go.Proofs.Ytlkodgmnhphfcaa
