/- PaintLater: for every colour, views, more views and images the call returns true; nothing that was there has turned. Written by paint/mk_later.py. -/
import Derived.Test.YtpcepgecbdjdfaaDoorBh
import Derived.Test.YtpcepgecbdjdfaaDoorBi
import Derived.Test.YtpcepgecbdjdfaaDoorBa
import Derived.LaidMore
namespace Go.Proofs.YtpcepgecbdjdfaaDoor.paintLater
open Go Go.RowKit

theorem drw_clip {W H : Nat} {x y s t : Int} {pix : List Int} {l m : List Rc} {L : List Int} (hL : L.length = W * H) (h : ∀ u v : Nat, u < W → v < H → inC l u v = inC m u v) : drw W x y s t pix l L = drw W x y s t pix m L := by
  unfold drw
  split
  · exact trn_congr hL fun u v hu hv => by rw [h u v hu hv]
  · rfl

/-- Two canvases of the program's, made since w. -/
structure Tw (w x : World) (p b q d : Nat) (L M : List Int) : Prop where
  cv : Cv 93 x p b 9 7 L
  dv : Cv 93 x q d 9 7 M
  pd : p ≠ d
  qb : q ≠ b
  bd : b ≠ d
  lob : w.heap.size ≤ b
  lod : w.heap.size ≤ d
  bel : Below w.heap.size w x

variable {w x y : World} {p b q d : Nat} {L M : List Int}
theorem Tw.on (h : Tw w x p b q d L M) (hb : Below x.heap.size x y) : Tw w y p b q d L M := ⟨h.cv.on hb, h.dv.on hb, h.pd, h.qb, h.bd, h.lob, h.lod, Below.on h.bel hb⟩
theorem Tw.one (h : Tw w x p b q d L M) (hk : Kp [b] x y) {L' : List Int} (hc : Cv 93 y p b 9 7 L') : Tw w y p b q d L' M :=
  ⟨hc, h.dv.kept hk (by simpa using h.qb) (by simpa using fun e => h.bd e.symm), h.pd, h.qb, h.bd, h.lob, h.lod, bel_kp h.bel hk h.bel.size (fun k hk => by
    simp only [List.mem_cons, List.not_mem_nil, or_false] at hk
    rw [hk]
    exact h.lob)⟩
theorem Tw.two (h : Tw w x p b q d L M) (hk : Kp [d] x y) {M' : List Int} (hc : Cv 93 y q d 9 7 M') : Tw w y p b q d L M' :=
  ⟨h.cv.kept hk (by simpa using h.pd) (by simpa using h.bd), hc, h.pd, h.qb, h.bd, h.lob, h.lod, bel_kp h.bel hk h.bel.size (fun k hk => by
    simp only [List.mem_cons, List.not_mem_nil, or_false] at hk
    rw [hk]
    exact h.lod)⟩
theorem rdm_low {a : Option Addr} {n c : Nat} {l : List (List Int)} (h : RdM 6 w a n c l) {B : Nat} (hB : w.heap.size ≤ B) : 0 < n → ∀ x, a = some x → x.block ≠ B := fun hn x hx => by
  obtain ⟨b', off, e, hb, _⟩ := h.pl hn
  rw [hx] at e
  cases e
  dsimp only
  omega

set_option maxRecDepth 100000 in
set_option maxHeartbeats 8000000 in
theorem walk (a0 : Int) (a1 : Option Addr) (n1 c1 : Nat) (l1 : List (List Int)) (a2 : Option Addr) (n2 c2 : Nat) (l2 : List (List Int)) (a3 : Option Addr) (n3 c3 : Nat) (l3 : List Gv) (w : World) (w0 : (Lit.int .u32 a0).wf = true) (w1 : RdN 6 w a1 n1 c1 l1) (w2 : RdN 6 w a2 n2 c2 l2) (w3 : RdG w a3 n3 c3 l3) (_hL : laidMetH Tryd.prog Rows.paintLaterRow.laid w) :
    Calls Tryd.prog 6 #[.int .u32 a0, .slice a1 n1 c1, .slice a2 n2 c2, .slice a3 n3 c3] w fun e w' => e = .returned (.bool true) ∧ Below w.heap.size w w' := by
  have hc := wfu w0
  obtain ⟨i0, hi, hz0, hz1, hz2⟩ := infoMP infoV23
  have HV1 := hid (rdm_of_rdn (by omega) w1)
  have HV2 := hid (rdm_of_rdn (by omega) w2)
  have HI1 : Hid (∀ y ∈ l1, ∀ z ∈ y, I64 z) := fun y hy z hz => wfi (w1.wf y hy z hz)
  have HI2 : Hid (∀ y ∈ l2, ∀ z ∈ y, I64 z) := fun y hy z hz => wfi (w2.wf y hy z hz)
  have HS1 := hid w1.size
  have HS2 := hid w2.size
  have hs1 := HV1.out.small
  have hs2 := HV2.out.small
  have h1l := hid w1.len
  have h2l := hid w2.len
  have HG := hid w3
  obtain ⟨ok, hok⟩ : ∃ ok, imOk l3 = ok := ⟨_, rfl⟩
  have HOK := hid hok
  have CI := hid (images_any a3 n3 c3 l3 w w3)
  clear w0 w1 w2 w3 _hL hok
  go_enter Tryd.func6, Tryd.ntmps6
  go_wp2_with fail
  refine CI.out.mono ?_
  rintro e x1 ⟨v, rfl, hb1, hyes⟩
  rw [HOK.out] at hyes ⊢
  have HB1 := hid hb1
  have HY := hid hyes
  clear hb1 hyes CI
  go_wp2_with fail
  refine (show Calls Tryd.prog 22 #[.int .i64 9, .int .i64 7] x1 (Own 93 x1 9 7 (List.replicate 63 0) fun v => .tuple #[v, .nilIface]) from cnew_any x1 9 7 (by omega) (by omega)).mono ?_
  rintro e x3 ⟨p, b, rfl, hb3, hC, hp, hb⟩
  have HB3 := hid hb3
  have HC := hid hC
  have hlt := hC.lt
  clear hb3 hC
  go_wp2_with fail
  refine (show Calls Tryd.prog 22 #[.int .i64 9, .int .i64 7] x3 (Own 93 x3 9 7 (List.replicate 63 0) fun v => .tuple #[v, .nilIface]) from cnew_any x3 9 7 (by omega) (by omega)).mono ?_
  rintro e x4 ⟨q, d, rfl, hb4, hD, hq, hd⟩
  have hz1' := HB1.out.size
  have hz3 := HB3.out.size
  have HB : Hid (Tw w x4 p b q d (List.replicate 63 0) (List.replicate 63 0)) := ⟨HC.out.on hb4, hD, by omega, by omega, by omega, by omega, by omega, Below.on (Below.on HB1.out HB3.out) hb4⟩
  have HB14 := hid (Below.on HB3.out hb4)
  clear hb4 hD HC HB3 HB1
  cases ok
  · clear HY HV1 HV2 HI1 HI2 HS1 HS2 HG
    go_wp2_with fail
    refine (pawake23_any _).mono ?_
    rintro e x5 ⟨rfl, hb5⟩
    have HB5 := hid (HB.out.on hb5)
    go_wp2
    go_ret
    exact ⟨rfl, HB5.out.bel⟩
  by_cases h8 : 8 < n1
  · have e8 : decide ((8 : Int) < n1) = true := decide_eq_true (by omega)
    clear HY HV1 HV2 HI1 HI2 HS1 HS2 HG
    go_wp2_with fail
    refine (pawake23_any _).mono ?_
    rintro e x5 ⟨rfl, hb5⟩
    have HB5 := hid (HB.out.on hb5)
    go_wp2
    go_ret
    exact ⟨rfl, HB5.out.bel⟩
  have e8 : decide ((8 : Int) < n1) = false := decide_eq_false (by omega)
  by_cases h9 : 8 < n2
  · have e9 : decide ((8 : Int) < n2) = true := decide_eq_true (by omega)
    clear HY HV1 HV2 HI1 HI2 HS1 HS2 HG
    go_wp2_with fail
    refine (pawake23_any _).mono ?_
    rintro e x5 ⟨rfl, hb5⟩
    have HB5 := hid (HB.out.on hb5)
    go_wp2
    go_ret
    exact ⟨rfl, HB5.out.bel⟩
  have e9 : decide ((8 : Int) < n2) = false := decide_eq_false (by omega)
  obtain ⟨ai, ni, ci, hs, rfl, hGi, hEi, hNi⟩ := HY.out rfl
  have HGI := hid hGi
  have HNI := hid hNi
  clear hGi hEi hNi HY HOK HG
  have HSr := hid ((HV1.out.on HB.out.bel).src (P := Tryd.prog) (t := 59) (e := 74) Tryd.underlying59)
  have HO := hid (OwM.nil 6 74 x4)
  go_wp2_with (at_builtin; first | (refine wpList_append_own_src _ rfl (.const (.slice none 0 0)) (.tmp 62) 59 59 rfl x4.heap.size 74 i0 (.agg #[.int .i64 0, .int .i64 0, .int .i64 0, .int .i64 0, .int .i64 0, .int .i64 0]) 6 48 Tryd.underlying59 hi hz0 hz1 hz2 rfl _ _ _ rfl HO.out.own _ _ _ rfl HSr.out (by simp only [maxLen, List.length_nil]; omega) (fits48 (by simp only [List.length_nil]; omega) (by omega)) (Nat.le_refl _) ?_; intro v5 x5 o5 g5; have HZ0 := hid (HO.out.grown HS1.out (by rw [h1l.out]; exact o5) g5); clear o5 g5; rw [List.nil_append] at HZ0; obtain ⟨a5, c5, rfl, _, _⟩ := HZ0.out.rd; have HZ : Hid (OwM 6 74 x4 x5 (.slice a5 n1 c5) l1) := by {rw [← h1l.out]; exact HZ0.out}; rw [h1l.out]; have HS5 := hid ((HV2.out.on (Below.on HB.out.bel HZ.out.bel)).src (P := Tryd.prog) (t := 59) (e := 74) Tryd.underlying59); clear HO HSr HZ0) | (refine wpList_append_own_src _ rfl (.tmp 63) (.tmp 64) 59 59 rfl x4.heap.size 74 i0 (.agg #[.int .i64 0, .int .i64 0, .int .i64 0, .int .i64 0, .int .i64 0, .int .i64 0]) 6 48 Tryd.underlying59 hi hz0 hz1 hz2 rfl _ _ _ rfl HZ.out.own _ _ _ rfl HS5.out (by simp only [maxLen]; have := h1l.out; omega) (fits48 (by have := h1l.out; omega) (by omega)) HZ.out.bel.size ?_; intro v6 x6 o6 g6; have HZ6 := hid (HZ.out.grown HS2.out (by rw [h2l.out]; exact o6) g6); clear o6 g6; obtain ⟨a6, c6, rfl, hR6, hn6⟩ := HZ6.out.rd))
  have HL6 : Hid ((l1 ++ l2).length = n1 + n2) := by rw [Hid, List.length_append, h1l.out, h2l.out]
  rw [HL6.out] at hR6
  rw [h1l.out, h2l.out]
  have HR6 := hid hR6
  have HN6 := hid hn6
  have HB6 := hid (HB.out.on HZ6.out.bel)
  have HB16 := hid (Below.on HB14.out HZ6.out.bel)
  have hdlt := HB.out.dv.lt
  have hblt := HB.out.cv.lt
  clear hR6 hn6 HS5 HZ HZ6 HB HB14
  go_wp2_with fail
  refine (pall_any HB6.out.cv a0 hc a6 (n1 + n2) c6 (l1 ++ l2) HR6.out (fun y hy => by
    rcases List.mem_append.1 hy with hy | hy
    · exact HI1.out y hy
    · exact HI2.out y hy) (fun _ x hx => by have := (HN6.out x hx).1; omega) ai ni ci hs (HGI.out.on HB16.out) (HGI.out.low (fun k hk => by simp only [List.mem_cons, List.not_mem_nil, or_false] at hk; omega)) HNI.out).mono ?_
  rintro e x7 ⟨rfl, hC7, hk7⟩
  have HB7 := hid (HB6.out.one hk7 hC7)
  have HG7 := hid ((HGI.out.on HB16.out).kp hk7 (HGI.out.low (fun k hk => by simp only [List.mem_cons, List.not_mem_nil, or_false] at hk; omega)))
  clear hC7 hk7 HB6 HB16 HR6 HN6
  go_wp2_with fail
  refine (pall_any HB7.out.dv a0 hc a1 n1 c1 l1 (HV1.out.on HB7.out.bel) HI1.out (rdm_low HV1.out (by omega)) ai ni ci hs HG7.out (HGI.out.low (fun k hk => by simp only [List.mem_cons, List.not_mem_nil, or_false] at hk; omega)) HNI.out).mono ?_
  rintro e x8 ⟨rfl, hC8, hk8⟩
  have HB8 := hid (HB7.out.two hk8 hC8)
  have HG8 := hid (HG7.out.kp hk8 (HGI.out.low (fun k hk => by simp only [List.mem_cons, List.not_mem_nil, or_false] at hk; omega)))
  have HGA : Hid (GAp [d] ai ni hs) := HGI.out.low (fun k hk => by simp only [List.mem_cons, List.not_mem_nil, or_false] at hk; omega)
  clear hC8 hk8 HB7 HG7 HGI
  obtain ⟨M0, hM0⟩ : ∃ M0, pnc 9 a0 [ara 9 7] l1 (hs.map gcl) (List.replicate 63 0) = M0 := ⟨_, rfl⟩
  have hM0l : M0.length = 63 := by rw [← hM0, pnc_length, List.length_replicate]
  have hL : pnc 9 a0 [ara 9 7] (l1 ++ l2) (hs.map gcl) (List.replicate 63 0) = l2.foldl (ptc 9 [ara 9 7] (hs.map gcl)) M0 := by
    rw [← hM0, pnc, pnc, List.foldl_append]
  rw [hL, hM0] at HB8
  have HM0 := hid hM0l
  clear hL hM0 hM0l HV1 HI1 HS1 HS2
  obtain ⟨L, hL⟩ : ∃ L, l2.foldl (ptc 9 [ara 9 7] (hs.map gcl)) M0 = L := ⟨_, rfl⟩
  rw [hL] at HB8
  have HL := hid hL
  clear hL
  have HNO : Hid (∀ (wr : World) M, Cv 93 wr q d 9 7 M → ∀ i z, wr.cell? ⟨d, i, none⟩ ≠ some (.int .i64 z)) := fun wr M hC i z hz => hC.no64 hz
  go_wp2
  go_loopw [15] (fun i wr => ∃ j : Nat, i = .int .i64 j ∧ j ≤ n2 ∧ Tw w wr p b q d L ((l2.take j).foldl (ptc 9 [ara 9 7] (hs.map gcl)) M0) ∧ RdG wr ai ni ci hs) (fun i _ => n2 - (numOf i).toNat)
  case atStart => exact ⟨0, rfl, by omega, HB8.out, HG8.out⟩
  case round =>
    obtain ⟨j, rfl, hj, hT, hG⟩ := hrel
    have HT := hid hT
    have HG := hid hG
    clear hT hG HB8 HG8
    obtain ⟨M, hM⟩ : ∃ M, M = (l2.take j).foldl (ptc 9 [ara 9 7] (hs.map gcl)) M0 := ⟨_, rfl⟩
    rw [← hM] at HT
    have HM := hid hM
    have HML : Hid (M.length = 9 * 7) := by rw [Hid, hM, foldl_ptc_length, HM0.out]
    clear hM
    by_cases hgo : j < n2
    · have e1 : decide ((j : Int) < n2) = true := decide_eq_true (by omega)
      have e2 : (j : Int) < n2 := by omega
      obtain ⟨b1, o1, z0, z1, z2, z3, z4, z5, rfl, hb1, hy, d0, d1, d2, d3, d4, d5⟩ := (HV2.out.on HT.out.bel).el6 hgo
      have hi2 : I64 z2 := HI2.out _ (List.mem_of_getElem? hy) z2 (by simp)
      have hi3 : I64 z3 := HI2.out _ (List.mem_of_getElem? hy) z3 (by simp)
      have CF := hid (pfind_any ai ni ci hs z1 _ HG.out (fun g hg => by have := HNI.out g hg; omega))
      have HST : Hid ((l2.take (j + 1)).foldl (ptc 9 [ara 9 7] (hs.map gcl)) M0 = ptc 9 [ara 9 7] (hs.map gcl) M [z0, z1, z2, z3, z4, z5]) := by rw [Hid, foldl_step hy, ← HM.out]
      clear hy
      cases hgf : gf z1 hs with
      | none =>
        rw [hgf] at CF
        have HN : Hid ((l2.take (j + 1)).foldl (ptc 9 [ara 9 7] (hs.map gcl)) M0 = M) := by rw [Hid, HST.out, ptc_none (show gf (nm5 1 [z0, z1, z2, z3, z4, z5]) hs = none from hgf)]
        clear hgf
        go_wp2_with fail
        refine CF.out.mono ?_
        rintro e w5 ⟨af, cf, rfl, _, _, hb5⟩
        dsimp only [Option.getD_none, Option.isSome_none, gz]
        have hB5 := Below.on hb5 (bel_new w5 (.cells #[.int .i64 0, .int .i64 0, .int .i64 0, .slice af 0 cf] 43))
        have HT5 := hid (HT.out.on hB5)
        have HG5 := hid (HG.out.on hB5)
        rw [← HN.out] at HT5
        clear hb5 hB5 HT HG
        go_wp2
        go_roundw
        case rel => exact ⟨j + 1, by go_num, by omega, HT5.out, HG5.out⟩
        case measure => simp [numOf]; omega
      | some g =>
        rw [hgf] at CF
        have hgm := gf_mem hgf
        have hgl := HNI.out g hgm
        have HN : Hid ((l2.take (j + 1)).foldl (ptc 9 [ara 9 7] (hs.map gcl)) M0 = drw 9 z2 z3 g.w g.h g.l [evr] M) := by
          rw [Hid, HST.out, ptc_some (show gf (nm5 1 [z0, z1, z2, z3, z4, z5]) hs = some g from hgf)]
          exact drw_clip (H := 7) HML.out fun u v hu hv => by rw [inC_ara (by omega) (by omega) hu hv, inC_evr (by omega) (by omega)]
        have hgo2 := HG.out.ok g hgm
        have hkw := hgo2.kw
        have hkh := hgo2.kh
        obtain ⟨g0, g1, g2, ga, gn, gc, gl⟩ := g
        dsimp only at hgl HN hkw hkh
        clear hgf hgm hgo2
        go_wp2_with fail
        refine CF.out.mono ?_
        rintro e w5 ⟨af, cf, rfl, hp5, hn5, hb5⟩
        dsimp only [Option.getD_some, Option.isSome_some] at hp5 ⊢
        have hX := bel_new w5 (.cells #[.int .i64 g0, .int .i64 g1, .int .i64 g2, .slice af gn cf] 43)
        have hI := bk_new w5 #[.int .i64 g0, .int .i64 g1, .int .i64 g2, .slice af gn cf] 43
        have HI := hid hI
        have hB5 := Below.on hb5 hX
        have HT5 := hid (HT.out.on hB5)
        have HG5 := hid (HG.out.on hB5)
        have HP5 := hid (hp5.on hX)
        have HN5 : Hid (∀ x, af = some x → x.block ≠ d) := fun x hx => by
          have h1 := hn5 x hx
          have h2 := HT.out.dv.lt
          omega
        have HX2 := hid ((hB5.cell hb1).trans d2)
        have HX3 := hid ((hB5.cell hb1).trans d3)
        have hlb5 : b1 < (w5.alloc (.cells #[.int .i64 g0, .int .i64 g1, .int .i64 g2, .slice af gn cf] 43)).heap.size := Nat.lt_of_lt_of_le hb1 hB5.size
        have hli5 := hI.lt
        clear hb5 hX hI hB5 hp5 hn5 HT HG HST CF d0 d1 d2 d3 d4 d5
        go_wp2
        obtain ⟨U, hU⟩ : ∃ U, Hid (U = w5.alloc (.cells #[.int .i64 g0, .int .i64 g1, .int .i64 g2, .slice af gn cf] 43)) := ⟨_, rfl⟩
        rw [← hU.out] at HI HT5 HG5 HP5 HX2 HX3 hlb5 hli5
        rw [← hU.out]
        clear hU
        refine wp_region_gate_drew (g := 18) (S := fun x => RowKit.Below U.heap.size U x) (by kernel_rfl) ?hh (fun hHeld => ?_)
        case hh => exact ((Below.refl _ _).drew)
        generalize World.drew _ = W0 at hHeld ⊢
        try dsimp only at hHeld
        refine wpAnyG_take (i := 0) (v := ?_) rfl (by kernel_rfl) (by kernel_rfl) (by kernel_rfl) (by kernel_rfl) (fun _ _ _ h => h) (Or.inl ⟨by kernel_rfl, ?hy0⟩) (by assumption) ?_
        case hy0 => (intro wI hSw; (try dsimp only at hSw); have k2 := (hSw.cell hlb5).trans HX2.out; have k3 := (hSw.cell hlb5).trans HX3.out; have hI := HI.out.on hSw; have i1 := hI.cell 1; have i2 := hI.cell 2; have i3 := hI.cell 3; go_simp; try with_reducible rfl)
        try simp only [Act.put, List.getElem_toArray, List.getElem_cons_zero, List.setIfInBounds_toArray, List.set_cons_zero, List.set_cons_succ]
        refine wpAnyG_take (i := 1) (v := ?_) rfl (by kernel_rfl) (by kernel_rfl) (by kernel_rfl) (by kernel_rfl) (fun _ _ _ h => h) (Or.inl ⟨by kernel_rfl, ?hy1⟩) (by assumption) ?_
        case hy1 => (intro wI hSw; (try dsimp only at hSw); have k2 := (hSw.cell hlb5).trans HX2.out; have k3 := (hSw.cell hlb5).trans HX3.out; have hI := HI.out.on hSw; have i1 := hI.cell 1; have i2 := hI.cell 2; have i3 := hI.cell 3; go_simp; try with_reducible rfl)
        try simp only [Act.put, List.getElem_toArray, List.getElem_cons_zero, List.getElem_cons_succ, List.setIfInBounds_toArray, List.set_cons_zero, List.set_cons_succ]
        refine wpAnyG_take (i := 2) (v := ?_) rfl (by kernel_rfl) (by kernel_rfl) (by kernel_rfl) (by kernel_rfl) (fun _ _ _ h => h) (Or.inl ⟨by kernel_rfl, ?hy2⟩) (by assumption) ?_
        case hy2 => (intro wI hSw; (try dsimp only at hSw); have k2 := (hSw.cell hlb5).trans HX2.out; have k3 := (hSw.cell hlb5).trans HX3.out; have hI := HI.out.on hSw; have i1 := hI.cell 1; have i2 := hI.cell 2; have i3 := hI.cell 3; go_simp; try with_reducible rfl)
        try simp only [Act.put, List.getElem_toArray, List.getElem_cons_zero, List.getElem_cons_succ, List.setIfInBounds_toArray, List.set_cons_zero, List.set_cons_succ]
        refine wpAnyG_take (i := 3) (v := ?_) rfl (by kernel_rfl) (by kernel_rfl) (by kernel_rfl) (by kernel_rfl) (fun _ _ _ h => h) (Or.inl ⟨by kernel_rfl, ?hy3⟩) (by assumption) ?_
        case hy3 => (intro wI hSw; (try dsimp only at hSw); have k2 := (hSw.cell hlb5).trans HX2.out; have k3 := (hSw.cell hlb5).trans HX3.out; have hI := HI.out.on hSw; have i1 := hI.cell 1; have i2 := hI.cell 2; have i3 := hI.cell 3; go_simp; try with_reducible rfl)
        try simp only [Act.put, List.getElem_toArray, List.getElem_cons_zero, List.getElem_cons_succ, List.setIfInBounds_toArray, List.set_cons_zero, List.set_cons_succ]
        refine wpAnyG_take (i := 4) (v := ?_) rfl (by kernel_rfl) (by kernel_rfl) (by kernel_rfl) (by kernel_rfl) (fun _ _ _ h => h) (Or.inl ⟨by kernel_rfl, ?hy4⟩) (by assumption) ?_
        case hy4 => (intro wI hSw; (try dsimp only at hSw); have k2 := (hSw.cell hlb5).trans HX2.out; have k3 := (hSw.cell hlb5).trans HX3.out; have hI := HI.out.on hSw; have i1 := hI.cell 1; have i2 := hI.cell 2; have i3 := hI.cell 3; go_simp; try with_reducible rfl)
        try simp only [Act.put, List.getElem_toArray, List.getElem_cons_zero, List.getElem_cons_succ, List.setIfInBounds_toArray, List.set_cons_zero, List.set_cons_succ]
        refine wpAnyG_take (i := 5) (v := ?_) rfl (by kernel_rfl) (by kernel_rfl) (by kernel_rfl) (by kernel_rfl) (fun _ _ _ h => h) (Or.inl ⟨by kernel_rfl, ?hy5⟩) (by assumption) ?_
        case hy5 => (intro wI hSw; (try dsimp only at hSw); have k2 := (hSw.cell hlb5).trans HX2.out; have k3 := (hSw.cell hlb5).trans HX3.out; have hI := HI.out.on hSw; have i1 := hI.cell 1; have i2 := hI.cell 2; have i3 := hI.cell 3; go_simp; try with_reducible rfl)
        try simp only [Act.put, List.getElem_toArray, List.getElem_cons_zero, List.getElem_cons_succ, List.setIfInBounds_toArray, List.set_cons_zero, List.set_cons_succ]
        refine wpAnyG_take (i := 6) (v := ?_) rfl (by kernel_rfl) (by kernel_rfl) (by kernel_rfl) (by kernel_rfl) (fun _ _ _ h => h) (Or.inl ⟨by kernel_rfl, ?hy6⟩) (by assumption) ?_
        case hy6 => (intro wI hSw; (try dsimp only at hSw); have k2 := (hSw.cell hlb5).trans HX2.out; have k3 := (hSw.cell hlb5).trans HX3.out; have hI := HI.out.on hSw; have i1 := hI.cell 1; have i2 := hI.cell 2; have i3 := hI.cell 3; go_simp; try with_reducible rfl)
        try simp only [Act.put, List.getElem_toArray, List.getElem_cons_zero, List.getElem_cons_succ, List.setIfInBounds_toArray, List.set_cons_zero, List.set_cons_succ]
        refine wpAnyG_take (i := 7) (v := ?_) rfl (by kernel_rfl) (by kernel_rfl) (by kernel_rfl) (by kernel_rfl) (fun _ _ _ h => h) (Or.inl ⟨by kernel_rfl, ?hy7⟩) (by assumption) ?_
        case hy7 => (intro wI hSw; (try dsimp only at hSw); have k2 := (hSw.cell hlb5).trans HX2.out; have k3 := (hSw.cell hlb5).trans HX3.out; have hI := HI.out.on hSw; have i1 := hI.cell 1; have i2 := hI.cell 2; have i3 := hI.cell 3; go_simp; try with_reducible rfl)
        try simp only [Act.put, List.getElem_toArray, List.getElem_cons_zero, List.getElem_cons_succ, List.setIfInBounds_toArray, List.set_cons_zero, List.set_cons_succ]
        refine wpAnyG_take (i := 8) (v := ?_) rfl (by kernel_rfl) (by kernel_rfl) (by kernel_rfl) (by kernel_rfl) (fun _ _ _ h => h) (Or.inl ⟨by kernel_rfl, ?hy8⟩) (by assumption) ?_
        case hy8 => (intro wI hSw; (try dsimp only at hSw); have k2 := (hSw.cell hlb5).trans HX2.out; have k3 := (hSw.cell hlb5).trans HX3.out; have hI := HI.out.on hSw; have i1 := hI.cell 1; have i2 := hI.cell 2; have i3 := hI.cell 3; go_simp; try with_reducible rfl)
        try simp only [Act.put, List.getElem_toArray, List.getElem_cons_zero, List.getElem_cons_succ, List.setIfInBounds_toArray, List.set_cons_zero, List.set_cons_succ]
        refine wpAnyG_take (i := 9) (v := ?_) rfl (by kernel_rfl) (by kernel_rfl) (by kernel_rfl) (by kernel_rfl) (fun _ _ _ h => h) (Or.inl ⟨by kernel_rfl, ?hy9⟩) (by assumption) ?_
        case hy9 => (intro wI hSw; (try dsimp only at hSw); have k2 := (hSw.cell hlb5).trans HX2.out; have k3 := (hSw.cell hlb5).trans HX3.out; have hI := HI.out.on hSw; have i1 := hI.cell 1; have i2 := hI.cell 2; have i3 := hI.cell 3; go_simp; try with_reducible rfl)
        try simp only [Act.put, List.getElem_toArray, List.getElem_cons_zero, List.getElem_cons_succ, List.setIfInBounds_toArray, List.set_cons_zero, List.set_cons_succ]
        refine wpAnyG_take (i := 10) (v := ?_) rfl (by kernel_rfl) (by kernel_rfl) (by kernel_rfl) (by kernel_rfl) (fun _ _ _ h => h) (Or.inl ⟨by kernel_rfl, ?hy10⟩) (by assumption) ?_
        case hy10 => (intro wI hSw; (try dsimp only at hSw); have k2 := (hSw.cell hlb5).trans HX2.out; have k3 := (hSw.cell hlb5).trans HX3.out; have hI := HI.out.on hSw; have i1 := hI.cell 1; have i2 := hI.cell 2; have i3 := hI.cell 3; go_simp; try with_reducible rfl)
        try simp only [Act.put, List.getElem_toArray, List.getElem_cons_zero, List.getElem_cons_succ, List.setIfInBounds_toArray, List.set_cons_zero, List.set_cons_succ]
        refine wpAnyG_take (i := 11) (v := ?_) rfl (by kernel_rfl) (by kernel_rfl) (by kernel_rfl) (by kernel_rfl) (fun _ _ _ h => h) (Or.inl ⟨by kernel_rfl, ?hy11⟩) (by assumption) ?_
        case hy11 => (intro wI hSw; (try dsimp only at hSw); have k2 := (hSw.cell hlb5).trans HX2.out; have k3 := (hSw.cell hlb5).trans HX3.out; have hI := HI.out.on hSw; have i1 := hI.cell 1; have i2 := hI.cell 2; have i3 := hI.cell 3; go_simp; try with_reducible rfl)
        try simp only [Act.put, List.getElem_toArray, List.getElem_cons_zero, List.getElem_cons_succ, List.setIfInBounds_toArray, List.set_cons_zero, List.set_cons_succ]
        refine wpAnyG_take (i := 12) (v := ?_) rfl (by kernel_rfl) (by kernel_rfl) (by kernel_rfl) (by kernel_rfl) (fun _ _ _ h => h) (Or.inl ⟨by kernel_rfl, ?hy12⟩) (by assumption) ?_
        case hy12 => (intro wI hSw; (try dsimp only at hSw); have k2 := (hSw.cell hlb5).trans HX2.out; have k3 := (hSw.cell hlb5).trans HX3.out; have hI := HI.out.on hSw; have i1 := hI.cell 1; have i2 := hI.cell 2; have i3 := hI.cell 3; go_simp; try with_reducible rfl)
        try simp only [Act.put, List.getElem_toArray, List.getElem_cons_zero, List.getElem_cons_succ, List.setIfInBounds_toArray, List.set_cons_zero, List.set_cons_succ]
        refine wpAnyG_take (i := 13) (v := ?_) rfl (by kernel_rfl) (by kernel_rfl) (by kernel_rfl) (by kernel_rfl) (fun _ _ _ h => h) (Or.inl ⟨by kernel_rfl, ?hy13⟩) (by assumption) ?_
        case hy13 => (intro wI hSw; (try dsimp only at hSw); have k2 := (hSw.cell hlb5).trans HX2.out; have k3 := (hSw.cell hlb5).trans HX3.out; have hI := HI.out.on hSw; have i1 := hI.cell 1; have i2 := hI.cell 2; have i3 := hI.cell 3; go_simp; try with_reducible rfl)
        try simp only [Act.put, List.getElem_toArray, List.getElem_cons_zero, List.getElem_cons_succ, List.setIfInBounds_toArray, List.set_cons_zero, List.set_cons_succ]
        refine wpAnyG_take (i := 14) (v := ?_) rfl (by kernel_rfl) (by kernel_rfl) (by kernel_rfl) (by kernel_rfl) (fun _ _ _ h => h) (Or.inl ⟨by kernel_rfl, ?hy14⟩) (by assumption) ?_
        case hy14 => (intro wI hSw; (try dsimp only at hSw); have k2 := (hSw.cell hlb5).trans HX2.out; have k3 := (hSw.cell hlb5).trans HX3.out; have hI := HI.out.on hSw; have i1 := hI.cell 1; have i2 := hI.cell 2; have i3 := hI.cell 3; go_simp; try with_reducible rfl)
        try simp only [Act.put, List.getElem_toArray, List.getElem_cons_zero, List.getElem_cons_succ, List.setIfInBounds_toArray, List.set_cons_zero, List.set_cons_succ]
        refine wpAnyG_take (i := 15) (v := ?_) rfl (by kernel_rfl) (by kernel_rfl) (by kernel_rfl) (by kernel_rfl) (fun _ _ _ h => h) (Or.inl ⟨by kernel_rfl, ?hy15⟩) (by assumption) ?_
        case hy15 => (intro wI hSw; (try dsimp only at hSw); have k2 := (hSw.cell hlb5).trans HX2.out; have k3 := (hSw.cell hlb5).trans HX3.out; have hI := HI.out.on hSw; have i1 := hI.cell 1; have i2 := hI.cell 2; have i3 := hI.cell 3; go_simp; try with_reducible rfl)
        try simp only [Act.put, List.getElem_toArray, List.getElem_cons_zero, List.getElem_cons_succ, List.setIfInBounds_toArray, List.set_cons_zero, List.set_cons_succ]
        refine wpAnyG_take (i := 16) (v := ?_) rfl (by kernel_rfl) (by kernel_rfl) (by kernel_rfl) (by kernel_rfl) (fun _ _ _ h => h) (Or.inl ⟨by kernel_rfl, ?hy16⟩) (by assumption) ?_
        case hy16 => (intro wI hSw; (try dsimp only at hSw); have k2 := (hSw.cell hlb5).trans HX2.out; have k3 := (hSw.cell hlb5).trans HX3.out; have hI := HI.out.on hSw; have i1 := hI.cell 1; have i2 := hI.cell 2; have i3 := hI.cell 3; go_simp; try with_reducible rfl)
        try simp only [Act.put, List.getElem_toArray, List.getElem_cons_zero, List.getElem_cons_succ, List.setIfInBounds_toArray, List.set_cons_zero, List.set_cons_succ]
        refine wpAnyG_ready (rs := [17]) (by kernel_rfl) (by simp) ?_
        refine AllReadyG.cons rfl (fun K hK => ?_) AllReadyG.nil
        go_simp
        go_wp2_with fail
        refine (reverywhere_any _).mono ?_
        rintro e W17 ⟨⟨ae, rfl, hae, hRe⟩, hb7⟩
        refine hK.out _ _ (Below.on hHeld hb7) (fun _ => ?_)
        have HRe := hid hRe
        have hH7 := Below.on hHeld hb7
        clear hK K hHeld hb7 hRe hae
        have hHeld := hH7
        clear hH7
        try simp only [Act.put, List.getElem_toArray, List.getElem_cons_zero, List.getElem_cons_succ, List.setIfInBounds_toArray, List.set_cons_zero, List.set_cons_succ]
        have hG := hHeld
        clear hHeld
        have hHeld : True := trivial
        refine wpAnyG_gateOp rfl (by kernel_rfl) (fun K hK => ?_)
        go_simp
        go_wp2_with fail
        refine (cdraw_any (HT5.out.on hG).dv z2 z3 g1 g2 hi2 hi3 hkw hkh af gn cf gl (HP5.out.on hG) hgl (fun _ => HN5.out) _ 1 1 [evr] HRe.out (by omega)).mono ?_
        rintro e W18 ⟨rfl, hC6, hk6⟩
        rw [← HN.out] at hC6
        have HT6 := hid ((HT5.out.on hG).two hk6 hC6)
        have HG6 := hid ((HG5.out.on hG).kp hk6 HGA.out)
        refine hK.out _ _ trivial (fun _ => ?_)
        clear hK K hC6 hk6 hG
        try simp only [Act.put, List.getElem_toArray, List.getElem_cons_zero, List.getElem_cons_succ, List.setIfInBounds_toArray, List.set_cons_zero, List.set_cons_succ]
        refine wpAnyH_done (by kernel_rfl) ?_ _
        go_wp2
        go_roundw
        case rel => exact ⟨j + 1, by go_num, by omega, HT6.out, HG6.out⟩
        case measure => simp [numOf]; omega
    · have e1 : decide ((j : Int) < n2) = false := decide_eq_false (by omega)
      have HF : Hid (M = L) := by
        rw [Hid, ← HL.out, HM.out, List.take_of_length_le (by rw [h2l.out]; omega)]
      rw [HF.out] at HT
      clear HF HM HML HL HM0 HG HV2 HI2
      go_wp2_with fail
      refine (pixels_any HT.out.cv).mono ?_
      rintro e w6 ⟨g, rfl, hg, hOw, hb6⟩
      have HT6 := hid (HT.out.on hb6)
      obtain ⟨a9, c9, e9, hR9, _⟩ := rdw_of_owns hOw HT.out.cv.col
      cases e9
      have HR9 := hid hR9
      clear hOw hb6 HT hR9
      go_wp2_with fail
      refine (pixels_any HT6.out.dv).mono ?_
      rintro e w7 ⟨g', rfl, hg', hOw, hb7⟩
      have HT7 := hid (HT6.out.on hb7)
      obtain ⟨a10, c10, e10, hR10, _⟩ := rdw_of_owns hOw HT6.out.cv.col
      cases e10
      have HR10 := hid hR10
      have HR97 := hid (HR9.out.on hb7)
      clear hOw hb7 HT6 hR10 HR9
      go_wp2_with fail
      refine (samew_any _ _ _ _ _ L _ HR97.out HR10.out (by omega)).mono ?_
      rintro e w8 ⟨rfl, hb8⟩
      have HT8 := hid (HT7.out.on hb8)
      clear hb8 HT7 HR97 HR10
      go_wp2_with fail
      refine (pawake23_any _).mono ?_
      rintro e w9 ⟨rfl, hb9⟩
      have HT9 := hid (HT8.out.on hb9)
      go_wp2
      go_ret
      exact ⟨rfl, HT9.out.bel⟩
end Go.Proofs.YtpcepgecbdjdfaaDoor.paintLater
