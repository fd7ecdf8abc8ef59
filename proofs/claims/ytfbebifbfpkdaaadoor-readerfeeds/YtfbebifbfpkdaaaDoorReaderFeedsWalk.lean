/- ReaderFeeds' walk: for every pieces the law returns true; nothing that was there is turned. -/
import Derived.Test.YtfbebifbfpkdaaaDoorOpn5
import Derived.Test.YtfbebifbfpkdaaaDoorRdrJ
import Derived.Deep.CutRange
import Derived.Deep.DeepCutAuto
import Derived.Deep.RegionWith
namespace Go.Proofs.YtfbebifbfpkdaaaDoor.readerFeeds
open Go Go.RowKit

/-- What holds of a reader's state. -/
structure Sound (s : St) : Prop where
  k : s.k ≤ 16
  l : s.k ≠ 0 → s.l = []

theorem Sound.step {s : St} (h : Sound s) (b : List UInt8) : Sound (fdS s b) ∧ (fdS s b).l.length ≤ s.l.length + b.length := by
  rw [fdS]
  split
  · have ht := tk_err (s.l ++ b)
    rw [List.length_append] at ht
    exact ⟨⟨by show (tk (s.l ++ b)).2.2 ≤ 16; omega, ht.2.1⟩, by show (tk (s.l ++ b)).2.1.length ≤ _; omega⟩
  · exact ⟨h, by omega⟩

theorem Sound.e {s : St} (h : Sound s) (b : List UInt8) : fdE s b ≤ 16 := by
  rw [fdE]
  split
  · have ht := tk_err (s.l ++ b)
    omega
  · exact h.k

theorem fdM_few (s : St) (b : List UInt8) : (fdM s b).length ≤ s.l.length + b.length := by
  rw [fdM]
  split
  · have ht := (tk_err (s.l ++ b)).2.2
    rw [List.length_append] at ht
    omega
  · exact Nat.zero_le _

theorem rfeed_any (base : Nat) (w : World) (p : Nat) (a : Option Addr) (n c : Nat) (s : St) (hs : Sound s) (hD : Doc base w p a n c s) (ab : Option Addr) (nb cb : Nat) (b : List UInt8) (hr : Rd w ab nb cb b) (hn : s.l.length + nb ≤ 1000000) :
    Calls Tryd.prog 11 #[.pointer (some ⟨p, 0, none⟩), .slice ab nb cb] w fun e w' => ∃ r a' n' c', e = .returned (.tuple #[r, .int .i64 (fdE s b : Nat)]) ∧ DFed base w p s b w' r a' n' c' := by
  obtain ⟨l, k⟩ := s
  cases k with
  | zero => exact rfeed_ok base w p a n c l hD ab nb cb b hr hn
  | succ k =>
    have hl : l = [] := hs.l (by simp)
    refine (rfeed_wrong w p _ k ab nb cb hD.var).mono ?_
    rintro e w' ⟨rfl, q, rfl⟩
    have hb' : Below w.heap.size w (w.drewN q) := below_drewN (Below.refl _ _) q
    refine ⟨.slice none 0 0, a, n, c, rfl, World.ownsRow_nil _ _ _ _, hD.kept (kp_of_below hb' []) (by simp) (fun _ _ _ h => by cases h), kp_of_below hb' _, fun x hx h0 => ?_⟩
    have : (fdS ⟨l, k + 1⟩ b).l = [] := hl
    rw [this] at h0
    simp at h0

/-- Both readers, apart from one another. -/
structure Two (w wr : World) (p1 p2 : Nat) (v : Value) (a : Option Addr) (n c : Nat) (s : St) (es : List Addr) : Prop where
  bel : Below w.heap.size w wr
  r : Rdr w.heap.size wr p1 v s es
  d : Doc w.heap.size wr p2 a n c s
  sd : Sound s
  pp : p1 ≠ p2
  vp : v.ownBlock ≠ some p2
  ap : ∀ x, a = some x → 0 < s.l.length → x.block ≠ p1 ∧ v.ownBlock ≠ some x.block

theorem Two.on {w wr u : World} {p1 p2 : Nat} {v : Value} {a : Option Addr} {n c : Nat} {s : St} {es : List Addr} (h : Two w wr p1 p2 v a n c s es) (hb : Below wr.heap.size wr u) : Two w u p1 p2 v a n c s es :=
  ⟨Below.on h.bel hb, h.r.kept (kp_of_below hb []) (fun _ _ h => by cases h), h.d.kept (kp_of_below hb []) (by simp) (fun _ _ _ h => by cases h), h.sd, h.pp, h.vp, h.ap⟩

/-- Behind the program's Feed the document's reader is as it was. -/
theorem Two.mid {w w1 w2 : World} {p1 p2 : Nat} {v v' r : Value} {a : Option Addr} {n c : Nat} {s : St} {es : List Addr} {b : List UInt8} (h : Two w w1 p1 p2 v a n c s es) (hF : Fed w w1 p1 v s b es w2 r v') : Doc w.heap.size w2 p2 a n c s ∧ Below w.heap.size w w2 := by
  obtain ⟨f1, f2, f3, f4, f5⟩ := hF
  refine ⟨h.d.kept f3 (fun hm => ?_) (fun x hx hl hm => ?_), h.bel.trans (f3.below h.bel.size h.r.own_lo)⟩
  · rcases own_mem.1 hm with e | e
    · exact h.pp e.symm
    · exact h.vp e
  · obtain ⟨h1, h2⟩ := h.ap x hx hl
    rcases own_mem.1 hm with e | e
    · exact h1 e
    · exact h2 e

/-- Behind both. -/
theorem Two.next {w w1 w2 w3 : World} {p1 p2 : Nat} {v v' r r' : Value} {a a' : Option Addr} {n c n' c' : Nat} {s : St} {es : List Addr} {b : List UInt8} (h : Two w w1 p1 p2 v a n c s es) (hF : Fed w w1 p1 v s b es w2 r v') (hG : DFed w.heap.size w2 p2 s b w3 r' a' n' c') :
    Two w w3 p1 p2 v' a' n' c' (fdS s b) es ∧ (∃ x y, r = .slice x (fdM s b).length y ∧ RdR w3 x (fdM s b).length y (fdM s b)) ∧ (∃ x y, r' = .slice x (fdM s b).length y ∧ RdR w3 x (fdM s b).length y (fdM s b)) := by
  have hb2 := (h.mid hF).2
  obtain ⟨f1, f2, f3, f4, f5⟩ := hF
  obtain ⟨g1, g2, g3, g4⟩ := hG
  have hp2 := h.d.lt
  have hp1 := h.r.lt
  have hsz := f3.size
  have hv2 : v'.ownBlock ≠ some p2 := fun e => by
    rcases f4 p2 e with h' | h'
    · exact h.vp h'
    · omega
  have hm : ∀ k, k ∈ [p2] → k = p2 := fun k hk => by simpa using hk
  refine ⟨⟨hb2.trans (g3.below hb2.size (fun k hk => by rw [hm k hk]; exact h.d.lo)), f2.kept g3 (fun k hk hk2 => ?_), g2, (h.sd.step b).1, h.pp, hv2, fun x hx hl => ?_⟩, ?_, ?_⟩
  · rw [hm k hk2] at hk
    rcases own_mem.1 hk with e | e
    · exact h.pp e.symm
    · exact hv2 e
  · have hx2 := g4 x hx hl
    refine ⟨by omega, fun e => ?_⟩
    have := (f2.row.lt _ e).2
    omega
  · obtain ⟨x, y, hr, hrd, hlo⟩ := rdr_of_owns f1
    exact ⟨x, y, hr, g3.rdr hrd (fun z hz _ hzm => by have := (hlo z hz).1; have := hm _ hzm; omega)⟩
  · obtain ⟨x, y, hr, hrd, _⟩ := rdr_of_owns g1
    exact ⟨x, y, hr, hrd⟩

set_option maxRecDepth 100000 in
set_option maxHeartbeats 2000000 in
theorem core (a : Option Addr) (n c : Nat) (L : List (List UInt8)) (w : World) (hr : RdB w a n c L) (es : List Addr) (hE : Errs w gerrs es) :
    Calls Tryd.prog 3 #[.slice a n c] w fun e w' => e = .returned (.bool true) ∧ Below w.heap.size w w' := by
  have HE := hid hE
  have HR := hid hr
  have hm : n ≤ 9223372036854775807 := by have := Nat.le_trans hr.le hr.max; simp only [maxLen] at this; omega
  have HW : Hid (∀ u, Below w.heap.size w u → Calls Tryd.prog 8 #[] u fun e w' => e = .returned (.bool true) ∧ Below w.heap.size w w') := fun u hu => by
    refine (awake5_any u es (HE.out.below hu)).mono ?_
    rintro e w' ⟨rfl, hb⟩
    exact ⟨rfl, Below.on hu hb⟩
  clear hE hr
  go_enter Tryd.func3, Tryd.ntmps3
  go_wp2_with fail
  refine (new_any w es).mono ?_
  rintro e w1 ⟨rfl, hb1, hs1, hr1⟩
  have hR1 := hr1 w.heap.size (Nat.le_refl _)
  have hb2 : Below w1.heap.size w1 (w1.alloc (.cells #[.slice none 0 0, .int .i64 0] 28 (0, 0))) := (Below.refl _ _).alloc (Nat.le_refl _) _
  have T0 : Hid (Two w (w1.alloc (.cells #[.slice none 0 0, .int .i64 0] 28 (0, 0))) w.heap.size (w.heap.size + 1) (.slice none 0 0) none 0 0 ⟨[], 0⟩ es) :=
    ⟨Below.on hb1 hb2, hR1.kept (kp_of_below hb2 []) (fun _ _ h => by cases h), ⟨by omega, by rw [← hs1]; exact heap_alloc_new w1 _, Rd.nil _, fun x hx => by cases hx⟩, ⟨by decide, fun _ => rfl⟩, by omega, by simp [Value.ownBlock], fun x hx => by cases hx⟩
  clear hr1 hR1 hb1 hb2
  go_wp2
  go_loopw [5] (fun i wr => ∃ (j : Nat) (v : Value) (a' : Option Addr) (n' c' : Nat) (s : St), i = .int .i64 j ∧ j ≤ 40 ∧ j ≤ n ∧ Two w wr w.heap.size (w.heap.size + 1) v a' n' c' s es ∧ s.l.length ≤ 9000 * j) (fun i _ => 40 - (intOf i).toNat)
  case atStart => exact ⟨0, _, _, _, _, _, rfl, by decide, Nat.zero_le _, T0.out, by decide⟩
  case round =>
    obtain ⟨j, v, a', n', c', s, rfl, hj40, hjn, hT, hsl⟩ := hrel
    have TW := hid hT
    clear hT T0
    by_cases hgo : j < n ∧ j < 40
    · have e1 : decide ((j : Int) < n) = true := decide_eq_true (by omega)
      have e2 : decide ((j : Int) < 40) = true := decide_eq_true (by omega)
      obtain ⟨b, off, lj, aj, nj, cj, rfl, _, hc, hrd, hnj⟩ := HR.out.at_ j hgo.1
      have hlt : (j : Int) < n := by omega
      have HC : Hid (∀ u, Below w.heap.size w u → u.cell? ⟨b, off + j, none⟩ = some (.slice aj nj cj)) := fun u hu => by
        rw [hu.cell (World.block_lt_of_cell? w _ hc)]
        exact hc
      have HRD := hid hrd
      have y0 := HC.out wr TW.out.bel
      clear hc hrd
      by_cases hbig : 9000 < nj
      · have e3 : decide ((9000 : Int) < nj) = true := decide_eq_true (by omega)
        go_wp2_with fail
        refine (HW.out _ TW.out.bel).mono ?_
        rintro e w2 ⟨rfl, hb⟩
        go_wp2
        go_ret
        exact ⟨rfl, hb⟩
      · have e3 : decide ((9000 : Int) < nj) = false := decide_eq_false (by omega)
        go_wp2_with fail
        refine (bytes_any wr aj nj cj lj (HRD.out.below TW.out.bel (rd_low HRD.out)) (by omega)).mono ?_
        rintro e u1 ⟨a1, c1, rfl, hrd1, hb1, _⟩
        have T1 := hid (TW.out.on hb1)
        have F1 := hid (feed_any w u1 T1.out.bel es HE.out _ v s T1.out.sd.k T1.out.r a1 nj c1 lj hrd1 (by omega))
        clear hrd1 hb1 TW y0
        go_wp2_with fail
        refine F1.out.mono ?_
        rintro e u2 ⟨r, v2, rfl, hF⟩
        obtain ⟨hd2, hb2⟩ := T1.out.mid hF
        have y0 := HC.out u2 hb2
        have HF := hid hF
        have F2 := hid (rfeed_any w.heap.size u2 _ a' n' c' s T1.out.sd hd2 aj nj cj lj (HRD.out.below hb2 (rd_low HRD.out)) (by omega))
        clear hF hd2 hb2 F1
        go_wp2_with fail
        refine F2.out.mono ?_
        rintro e u3 ⟨r3, a3, n3, c3, rfl, hG⟩
        obtain ⟨hT3, ⟨x1, y1, rfl, hq1⟩, ⟨x2, y2, rfl, hq2⟩⟩ := T1.out.next HF.out hG
        have hlj := HRD.out.len
        have hS3 := (T1.out.sd.step lj).2
        have hE3 := T1.out.sd.e lj
        have hN3 := fdM_few s lj
        have T3 := hid hT3
        have d0 : u3.cell? ⟨w.heap.size + 1, 0, none⟩ = some (.slice a3 n3 c3) := by rw [Lib.cell_of_heap hT3.d.var]; rfl
        have hd3 : n3 = (fdS s lj).l.length := hT3.d.rd.len.symm
        have CK : Hid (∀ u, Below u3.heap.size u3 u → Calls Tryd.prog 12 #[erv es (fdE s lj)] u fun e w' => e = .returned (.int .i64 (fdE s lj : Nat)) ∧ Below u3.heap.size u3 w') := fun u hu => by
          refine (kind_erv u es (HE.out.below (Below.on T3.out.bel hu)) _ hE3).mono ?_
          rintro e w' ⟨rfl, hb⟩
          exact ⟨rfl, Below.on hu hb⟩
        have CL : Hid (∀ u, Below u3.heap.size u3 u → Calls Tryd.prog 13 #[.pointer (some ⟨w.heap.size, 0, none⟩)] u fun e w' => e = .returned (.int .i64 (n3 : Nat)) ∧ w' = u) := fun u hu => by
          rw [hd3]
          exact left_any u _ _ _ _ _ (T3.out.on hu).r
        have CS : Hid (∀ u, Below u3.heap.size u3 u → Calls Tryd.prog 14 #[.slice x1 (fdM s lj).length y1, .slice x2 (fdM s lj).length y2] u fun e w' => e = .returned (.bool true) ∧ Below u3.heap.size u3 w') := fun u hu => by
          refine (same_any _ _ _ _ _ _ u (hq1.kept (fun x hx hl => hu.block _ (hq1.low x hx hl))) (hq2.kept (fun x hx hl => hu.block _ (hq2.low x hx hl))) (by omega)).mono ?_
          rintro e w' ⟨rfl, q, rfl⟩
          exact ⟨rfl, below_drewN hu q⟩
        clear hG HF F2 T1 hT3 y0 HC
        generalize fdE s lj = E at *
        generalize (fdM s lj).length = N at *
        generalize erv es E = ev at *
        go_upto_region 12 with fail
        go_cut [70] from 15 to 70 (fun v wx => v = .bool false ∧ Below u3.heap.size u3 wx)
        case first =>
          have hne : ((E : Int) != E) = false := by simp
          have hn3 : ((n3 : Int) != n3) = false := by simp
          have HD0 : Hid (∀ u, Below u3.heap.size u3 u → u.cell? ⟨w.heap.size + 1, 0, none⟩ = some (.slice a3 n3 c3)) := fun u hu => by rw [hu.cell (World.block_lt_of_cell? u3 _ d0)]; exact d0
          clear d0 hd3 hE3 hN3 T3 HE HR HRD HW
          go_region_with (first | (go_at_call 12; refine (CK.out _ (Below.refl _ _).drew).mono ?_; rintro e k1 ⟨rfl, hbk⟩; have dk := HD0.out k1 hbk) | (go_at_call 13; refine (CL.out _ hbk).mono ?_; rintro e k1 ⟨rfl, rfl⟩) | (go_at_call 14; refine (CS.out _ hbk).mono ?_; rintro e k2 ⟨rfl, hbk2⟩))
          all_goals
            go_wp2_with fail
            go_meet
            exact ⟨rfl, hbk2⟩
        case rest =>
          obtain ⟨rfl, hbc⟩ := hcut
          have T4 := hid (T3.out.on hbc)
          clear hbc T3 CK CL CS d0 hd3 hE3 hN3
          go_wp2
          refine ⟨⟨j + 1, v2, a3, n3, c3, fdS s lj, by go_num, by omega, by omega, T4.out, by omega⟩, by simp [intOf]; omega⟩
    · by_cases h1 : j < n
      · have e1 : decide ((j : Int) < n) = true := decide_eq_true (by omega)
        have e2 : decide ((j : Int) < 40) = false := decide_eq_false (by omega)
        go_wp2_with fail
        refine (HW.out _ TW.out.bel).mono ?_
        rintro e w2 ⟨rfl, hb⟩
        go_wp2
        go_ret
        exact ⟨rfl, hb⟩
      · have e1 : decide ((j : Int) < n) = false := decide_eq_false (by omega)
        go_wp2_with fail
        refine (HW.out _ TW.out.bel).mono ?_
        rintro e w2 ⟨rfl, hb⟩
        go_wp2
        go_ret
        exact ⟨rfl, hb⟩

theorem walk (a : Option Addr) (n c : Nat) (L : List (List UInt8)) (w : World) (hr : RdB w a n c L) (hL : laidMetH Tryd.prog Rows.readerFeedsRow.laid w) :
    Calls Tryd.prog 3 #[.slice a n c] w fun e w' => e = .returned (.bool true) ∧ Below w.heap.size w w' := by
  obtain ⟨es, hF⟩ := errs16 hL
  exact core a n c L w hr es hF
end Go.Proofs.YtfbebifbfpkdaaaDoor.readerFeeds
