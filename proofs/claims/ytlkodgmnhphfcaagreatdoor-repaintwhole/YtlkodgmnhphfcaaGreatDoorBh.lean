/- The program's images: slices.Clone of points, first, Find. -/
import Derived.Test.YtlkodgmnhphfcaaGreatDoorBg
import Derived.Test.YtlkodgmnhphfcaaGreatDoorBa
import Derived.Test.YtlkodgmnhphfcaaGreatDoorBc
import Derived.Deep.AppendSrc
import Derived.Deep.RegionHeldLaw
namespace Go.Proofs.YtlkodgmnhphfcaaGreatDoor
open Go Go.RowKit

/-- Points handed back, new ones. -/
def NwP (w : World) (n : Nat) (l : List Int) (e : Ending) (w' : World) : Prop := ∃ a c, e = .returned (.slice a n c) ∧ RdI .u32 w' a n c l ∧ (∀ x, a = some x → w.heap.size ≤ x.block) ∧ Below w.heap.size w w'

theorem eqlW0 (w : World) : (binOp BinOp.eql 43 (.slice none 0 0) (.slice none 0 0)).run Tryz.prog w = .ok (.bool true) w := by kernel_rfl
theorem eqlW1 (x : Addr) (n c : Nat) (w : World) : (binOp BinOp.eql 43 (.slice (some x) n c) (.slice none 0 0)).run Tryz.prog w = .ok (.bool false) w := by kernel_rfl
theorem own_emptyW (w : World) : (w.alloc (.cells #[] 22)).ownsRow w.heap.size 22 1 (.slice (some ⟨w.heap.size, 0, none⟩) 0 0) 0 [] :=
  ⟨by simp, .inr ⟨w.heap.size, 0, #[], rfl, Nat.le_refl _, heap_alloc_new w _, Nat.le_refl _, Nat.zero_le _, by simp, by simp⟩⟩
set_option maxRecDepth 100000 in
set_option maxHeartbeats 1000000 in
theorem pclone_any (s : Option Addr) (n c : Nat) (l : List Int) (w : World) (hr : RdI .u32 w s n c l) (hn : n ≤ 1000000) :
    Calls Tryz.prog 57 #[.slice s n c] w (NwP w n l) := by
  obtain ⟨i0, hi, hz0, hz1, hz2⟩ := info32p
  have HL := hid hr.len
  have hb : Below w.heap.size w (w.alloc (.cells #[] 22)) := bel_new w _
  have HS := hid ((hr.on hb).src32 (P := Tryz.prog) (t := 43) (e := 22) Tryz.underlying43)
  have HO := hid (own_emptyW w)
  have HB := hid hb
  have HK := hid (fun z hz => col_of hr (z := z) hz)
  cases s with
  | none =>
    have h1 := hr.hnil rfl
    have h2 := hr.le
    obtain rfl : n = 0 := by omega
    obtain rfl : c = 0 := h1
    have q0 := eqlW0
    obtain rfl : l = [] := List.eq_nil_of_length_eq_zero HL.out
    clear hr hb HS HO
    go_enter Tryz.func57, Tryz.ntmps57
    go_wp2
    go_ret
    exact ⟨none, 0, rfl, RdI.nil _ _, (fun x hx => by cases hx), Below.refl _ _⟩
  | some x =>
    have q0 := eqlW1
    clear hr hb
    go_enter Tryz.func57, Tryz.ntmps57
    go_wp2_with (at_builtin; refine wpList_append_own_src _ rfl (.tmp 5) (.tmp 6) 43 43 rfl w.heap.size 22 i0 (.int .u32 0) 1 4 Tryz.underlying43 hi hz0 hz1 hz2 rfl _ _ _ rfl HO.out _ _ _ rfl HS.out (by simp only [maxLen]; omega) (fits4 (by omega)) HB.out.size ?_; intro v3 w3 o3 g3; have HO3 := hid o3; have HG3 := hid g3; clear o3 g3)
    go_ret
    have h3 := HO3.out
    rw [Nat.zero_add, List.nil_append] at h3
    obtain ⟨a, c', rfl, hR, hab⟩ := rdw_of_owns h3 HK.out
    exact ⟨a, c', rfl, hR, fun x hx => (hab x hx).1, HB.out.trans ((kp_of_grown HG3.out).below HB.out.size (fun k hk => Nat.le_of_eq (List.mem_singleton.1 (show k ∈ [w.heap.size] from hk)).symm))⟩

set_option maxRecDepth 100000 in
theorem pfst_fn (k : Int) (w : World) (q : Nat) (hq : w.cell? ⟨q, 0, none⟩ = some (.int .i64 k)) (b0 b1 b2 : Int) (a : Option Addr) (n c : Nat) (u : World) (hu : Below w.heap.size w u) :
    Calls Tryz.prog 51 (#[.agg #[.int .i64 b0, .int .i64 b1, .int .i64 b2, .slice a n c]] ++ #[.pointer (some ⟨q, 0, none⟩)]) u fun e w' => e = .returned (.bool (b0 == k)) ∧ Below u.heap.size u w' := by
  have hlt := World.block_lt_of_cell? w _ hq
  have hc : u.cell? ⟨q, 0, none⟩ = some (.int .i64 k) := by rw [hu.cell hlt]; exact hq
  have hb := bel_new u (.cells #[.int .i64 b0, .int .i64 b1, .int .i64 b2, .slice a n c] 60)
  have hc2 : (u.alloc (.cells #[.int .i64 b0, .int .i64 b1, .int .i64 b2, .slice a n c] 60)).cell? ⟨q, 0, none⟩ = some (.int .i64 k) := by rw [hb.cell (World.block_lt_of_cell? u _ hc)]; exact hc
  have HB := hid hb
  clear hb hu
  go_enter Tryz.func51, Tryz.ntmps51
  go_wp2
  go_ret
  exact ⟨rfl, HB.out⟩

set_option maxRecDepth 100000 in
set_option maxHeartbeats 1000000 in
theorem pfst_ix (a : Option Addr) (n c : Nat) (gs : List Gv) (k : Int) (q : Nat) (w : World) (h : RdG w a n c gs) (hq : w.cell? ⟨q, 0, none⟩ = some (.int .i64 k)) :
    Calls Tryz.prog 50 #[.slice a n c, .func (.func 51) #[] #[.pointer (some ⟨q, 0, none⟩)]] w fun e w' => IxR k gs e ∧ Below w.heap.size w w' := by
  have HL := hid h.len
  have hs := h.small
  have H := hid h
  have HP : Hid (∀ (b0 b1 b2 : Int) (a : Option Addr) (n c : Nat) (u : World), Below w.heap.size w u → Calls Tryz.prog 51 (#[.agg #[.int .i64 b0, .int .i64 b1, .int .i64 b2, .slice a n c]] ++ #[.pointer (some ⟨q, 0, none⟩)]) u fun e w' => e = .returned (.bool (b0 == k)) ∧ Below u.heap.size u w') := fun b0 b1 b2 a n c u hu => pfst_fn k w q hq b0 b1 b2 a n c u hu
  have eg := enters_of Tryz.func51 (by kernel_rfl) rfl
  clear h hq
  go_enter Tryz.func50, Tryz.ntmps50
  go_wp2
  go_loopw [8] (fun i wr => ∃ j : Nat, i = .int .i64 j ∧ j ≤ n ∧ (∀ i x, i < j → gs[i]? = some x → x.b ≠ k) ∧ RowKit.Below w.heap.size w wr) (fun i _ => n - (numOf i).toNat)
  case atStart => exact ⟨0, rfl, by omega, fun k r hk => absurd hk (by omega), Below.refl _ _⟩
  case round =>
    obtain ⟨j, rfl, hj, hN, hb⟩ := hrel
    have HN := hid hN
    have HB := hid hb
    clear hN hb
    by_cases hgo : j < n
    · have e1 : decide ((j : Int) < n) = true := decide_eq_true (by omega)
      obtain ⟨b, off, g, rfl, _, hr, _, c0, c1, c2, c3⟩ := (H.out.on HB.out).el hgo
      obtain ⟨g0, g1, g2, ga, gn, gc, gl⟩ := g
      dsimp only at c0 c1 c2 c3
      have CP := hid (HP.out g0 g1 g2 ga gn gc wr HB.out)
      have HR := hid hr
      have e3 : (j : Int) < n := by omega
      clear hr
      cases hq : (g0 == k)
      · rw [hq] at CP
        have HN2 : Hid (∀ i x, i < j + 1 → gs[i]? = some x → x.b ≠ k) := fun i x hi hx => by
          rcases Nat.lt_or_ge i j with h | h
          · exact HN.out i x h hx
          · obtain rfl : i = j := by omega
            rw [HR.out] at hx
            cases hx
            show g0 ≠ k
            simpa using hq
        clear hq
        go_wp2_with fail
        refine CP.out.mono ?_
        rintro e w2 ⟨rfl, hb2⟩
        have HB2 := hid (Below.on HB.out hb2)
        clear hb2
        go_wp2
        go_roundw
        case rel => exact ⟨j + 1, by go_num, by omega, HN2.out, HB2.out⟩
        case measure => simp [numOf]; omega
      · rw [hq] at CP
        have HI : Hid (IxR k gs (.returned (.int .i64 j))) := .inr ⟨j, _, rfl, HR.out, gf_at HN.out HR.out (show g0 = k by simpa using hq)⟩
        clear hq
        go_wp2_with fail
        refine CP.out.mono ?_
        rintro e w2 ⟨rfl, hb2⟩
        have HB2 := hid (Below.on HB.out hb2)
        clear hb2
        go_wp2
        go_ret
        exact ⟨HI.out, HB2.out⟩
    · have e1 : decide ((j : Int) < n) = false := decide_eq_false (by omega)
      have HI : Hid (IxR k gs (.returned (.int .i64 (-1)))) := .inl ⟨rfl, gf_none fun i x hx => HN.out i x (by
        have := (List.getElem?_eq_some_iff.1 hx).1
        have := HL.out
        omega) hx⟩
      go_wp2
      go_ret
      exact ⟨HI.out, HB.out⟩

theorem info_pim : (Tryz.prog.info? 60).map (·.size) = some 4 := by kernel_rfl

set_option maxRecDepth 100000 in
set_option maxHeartbeats 1000000 in
theorem pfirst_any (a : Option Addr) (n c : Nat) (gs : List Gv) (k : Int) (w : World) (h : RdG w a n c gs) :
    Calls Tryz.prog 28 #[.slice a n c, .int .i64 k] w fun e w' => e = .returned (fdv (gf k gs)) ∧ Below w.heap.size w w' := by
  have hs := h.small
  have hb0 := bel_new w (.cells #[.int .i64 k] 3)
  have hb := Below.on hb0 (bel_new _ (.cells #[.int .i64 0, .int .i64 0, .int .i64 0, .slice none 0 0] 60))
  have h1 := h.on hb
  have HQ := ((bk_new w #[.int .i64 k] 3).on (bel_new _ (.cells #[.int .i64 0, .int .i64 0, .int .i64 0, .slice none 0 0] 60))).cell 0
  have CI := hid (pfst_ix a n c gs k w.heap.size _ h1 HQ)
  have HK : Hid (Bk ((w.alloc (.cells #[.int .i64 k] 3)).alloc (.cells #[.int .i64 0, .int .i64 0, .int .i64 0, .slice none 0 0] 60)) (w.heap.size + 1) 60 #[.int .i64 0, .int .i64 0, .int .i64 0, .slice none 0 0]) := by
    have := bk_new (w.alloc (.cells #[.int .i64 k] 3)) #[.int .i64 0, .int .i64 0, .int .i64 0, .slice none 0 0] 60
    rwa [size_new] at this
  have HB := hid hb
  have HG := hid h1
  clear HQ hb0 h h1 hb
  have hmf : ∀ (fn : Fn) (first cap : Array Value) (w : World), (Instr.makeFunc fn first cap).run Tryz.prog w = .ok (.func fn first cap) w := fun _ _ _ _ => rfl
  go_enter Tryz.func28, Tryz.ntmps28
  go_wp2_with fail
  refine CI.out.mono ?_
  rintro e w2 ⟨hI, hb2⟩
  have HB2 := hid (Below.on HB.out hb2)
  have HK2 := hid (HK.out.on hb2)
  have f0 := HK2.out.fz
  have c0 := HK2.out.cell 0
  have c1 := HK2.out.cell 1
  have c2 := HK2.out.cell 2
  have c3 := HK2.out.cell 3
  have HG2 := hid (HG.out.on hb2)
  have HBF : Hid (∀ v0 v1 v2 v3, Below w.heap.size w ((((w2.setCell ⟨w.heap.size + 1, 0, none⟩ v0).setCell ⟨w.heap.size + 1, 1, none⟩ v1).setCell ⟨w.heap.size + 1, 2, none⟩ v2).setCell ⟨w.heap.size + 1, 3, none⟩ v3)) := fun v0 v1 v2 v3 => (((HB2.out.setCell (p := ⟨w.heap.size + 1, 0, none⟩) (by show w.heap.size ≤ w.heap.size + 1; omega) _).setCell (p := ⟨w.heap.size + 1, 1, none⟩) (by show w.heap.size ≤ w.heap.size + 1; omega) _).setCell (p := ⟨w.heap.size + 1, 2, none⟩) (by show w.heap.size ≤ w.heap.size + 1; omega) _).setCell (p := ⟨w.heap.size + 1, 3, none⟩) (by show w.heap.size ≤ w.heap.size + 1; omega) _
  clear hb2 HG HK HB CI
  rcases hI with ⟨rfl, h0⟩ | ⟨j, g, rfl, hj, hg⟩
  · have HF : Hid (fdv (gf k gs) = .tuple #[.agg #[.int .i64 0, .int .i64 0, .int .i64 0, .slice none 0 0], .bool false]) := by rw [Hid, h0]; rfl
    clear h0
    go_wp2
    refine bodyPost_ret (results_cell_tmp' rfl _ _ (w.heap.size + 1) _ _ _ _ rfl ((((HK2.out.set 0 _).set 1 _).set 2 _).set 3 _).obj Tryz.underlying60 rfl info_pim) rfl ?_
    rw [HF.out]
    exact ⟨rfl, HBF.out _ _ _ _⟩
  · have hin : j < n := by rw [← HG2.out.len]; exact (List.getElem?_eq_some_iff.1 hj).1
    obtain ⟨b, off, g', rfl, _, hr, _, d0, d1, d2, d3⟩ := HG2.out.el hin
    rw [hj] at hr
    cases hr
    obtain ⟨g0, g1, g2, ga, gn, gc, gl⟩ := g
    dsimp only at d0 d1 d2 d3
    have HF : Hid (fdv (gf k gs) = .tuple #[.agg #[.int .i64 g0, .int .i64 g1, .int .i64 g2, .slice ga gn gc], .bool true]) := by rw [Hid, hg]; rfl
    have e1 : (j : Int) < n := by omega
    have e2 : (0 : Int) ≤ j := by omega
    clear hg hj
    go_wp2
    refine bodyPost_ret (results_cell_tmp' rfl _ _ (w.heap.size + 1) _ _ _ _ rfl ((((HK2.out.set 0 _).set 1 _).set 2 _).set 3 _).obj Tryz.underlying60 rfl info_pim) rfl ?_
    rw [HF.out]
    exact ⟨rfl, HBF.out _ _ _ _⟩

/-- What Find hands back: the image with new points. -/
def FdN (w : World) (o : Option Gv) (e : Ending) (w' : World) : Prop := ∃ a c, e = .returned (.tuple #[.agg #[.int .i64 (o.getD gz).b, .int .i64 (o.getD gz).w, .int .i64 (o.getD gz).h, .slice a (o.getD gz).n c], .bool o.isSome]) ∧ RdI .u32 w' a (o.getD gz).n c (o.getD gz).l ∧ (∀ x, a = some x → w.heap.size ≤ x.block) ∧ Below w.heap.size w w'

set_option maxRecDepth 100000 in
set_option maxHeartbeats 1000000 in
theorem pfind_any (a : Option Addr) (n c : Nat) (gs : List Gv) (k : Int) (w : World) (h : RdG w a n c gs) (hn : ∀ g ∈ gs, g.n ≤ 1000000) :
    Calls Tryz.prog 33 #[.slice a n c, .int .i64 k] w (FdN w (gf k gs)) := by
  have hb0 := bel_new w (.cells #[.int .i64 0, .int .i64 0, .int .i64 0, .slice none 0 0] 60)
  have h1 := h.on hb0
  have CI := hid (pfirst_any a n c gs k _ h1)
  have HB := hid hb0
  have HK := hid (bk_new w #[.int .i64 0, .int .i64 0, .int .i64 0, .slice none 0 0] 60)
  have HG : Hid (GOk (w.alloc (.cells #[.int .i64 0, .int .i64 0, .int .i64 0, .slice none 0 0] 60)) ((gf k gs).getD gz) ∧ ((gf k gs).getD gz).n ≤ 1000000) := by
    cases hg : gf k gs with
    | none => exact ⟨gz_ok _, by decide⟩
    | some g => exact ⟨h1.ok g (gf_mem hg), hn g (gf_mem hg)⟩
  obtain ⟨o, ho⟩ : ∃ o, gf k gs = o := ⟨_, rfl⟩
  obtain ⟨s, hs⟩ : ∃ s, o.isSome = s := ⟨_, rfl⟩
  obtain ⟨g, hg⟩ : ∃ g, o.getD gz = g := ⟨_, rfl⟩
  rw [ho, fdv, hs] at CI
  rw [ho] at HG
  rw [ho]
  unfold FdN
  rw [hs]
  rw [hg] at CI HG ⊢
  obtain ⟨g0, g1, g2, ga, gn, gc, gl⟩ := g
  dsimp only [gvv] at CI HG ⊢
  clear h h1 hb0 hn ho hs hg
  go_enter Tryz.func33, Tryz.ntmps33
  go_wp2_with fail
  refine CI.out.mono ?_
  rintro e w2 ⟨rfl, hb2⟩
  have HB2 := hid (Below.on HB.out hb2)
  have HK2 := hid (HK.out.on hb2)
  have HP2 := hid (HG.out.1.px.on hb2)
  have hgn := HG.out.2
  clear hb2 CI HB HK HG
  go_wp2_with fail
  have hbx := bel_new w2 (.cells #[.int .i64 g0, .int .i64 g1, .int .i64 g2, .slice ga gn gc] 60)
  have hk := bk_new w2 #[.int .i64 g0, .int .i64 g1, .int .i64 g2, .slice ga gn gc] 60
  refine (pclone_any ga gn gc gl _ (HP2.out.on hbx) hgn).mono ?_
  rintro e w3 ⟨a3, c3, rfl, hr3, hn3, hb3⟩
  have HK3 := hid (hk.on hb3)
  have HK0 := hid ((HK2.out.on hbx).on hb3)
  have HB3 := hid (Below.on (Below.on HB2.out hbx) hb3)
  have hws : w.heap.size < w2.heap.size := HK2.out.lt
  have hws3 : w2.heap.size < w3.heap.size := HK3.out.lt
  have HFin : Hid (∀ v v0 v1 v2 v3 U, U = (((((w3.setCell ⟨w2.heap.size, 3, none⟩ v).setCell ⟨w.heap.size, 0, none⟩ v0).setCell ⟨w.heap.size, 1, none⟩ v1).setCell ⟨w.heap.size, 2, none⟩ v2).setCell ⟨w.heap.size, 3, none⟩ v3) → RdI .u32 U a3 gn c3 gl ∧ Below w.heap.size w U) := fun v v0 v1 v2 v3 U hU => by
    have hk : Kp [w2.heap.size, w.heap.size] w3 U := by
      rw [hU]
      exact ((((((Kp.refl [w2.heap.size, w.heap.size] w3).set ⟨w2.heap.size, 3, none⟩ (by simp) v).set ⟨w.heap.size, 0, none⟩ (by simp) v0).set ⟨w.heap.size, 1, none⟩ (by simp) v1).set ⟨w.heap.size, 2, none⟩ (by simp) v2).set ⟨w.heap.size, 3, none⟩ (by simp) v3)
    refine ⟨hr3.kp hk fun _ x hx hm => ?_, bel_kp HB3.out hk HB3.out.size fun k hk => ?_⟩
    · have h1 := hn3 x hx
      rw [size_new] at h1
      simp only [List.mem_cons, List.not_mem_nil, or_false] at hm
      omega
    · simp only [List.mem_cons, List.not_mem_nil, or_false] at hk
      omega
  have HN3 : Hid (∀ x, a3 = some x → w.heap.size ≤ x.block) := fun x hx => by
    have h1 := hn3 x hx
    rw [size_new] at h1
    omega
  have f3 := HK3.out.fz
  have c30 := HK3.out.cell 0
  have c31 := HK3.out.cell 1
  have c32 := HK3.out.cell 2
  have c33 := HK3.out.cell 3
  have f0 := HK0.out.fz
  have c0 := HK0.out.cell 0
  have c1 := HK0.out.cell 1
  have c2 := HK0.out.cell 2
  have c3' := HK0.out.cell 3
  clear hr3 hn3 hb3 hbx hk HK2 HP2 HB2 HB3 hgn
  go_wp2
  refine bodyPost_ret (results_cell_tmp' rfl _ _ w.heap.size _ _ _ _ rfl (((((HK0.out.other (q := w2.heap.size) (by omega) 3 _).set 0 _).set 1 _).set 2 _).set 3 _).obj Tryz.underlying60 rfl info_pim) rfl ?_
  obtain ⟨h1, h2⟩ := HFin.out _ _ _ _ _ _ rfl
  exact ⟨a3, c3, rfl, h1, HN3.out, h2⟩
end Go.Proofs.YtlkodgmnhphfcaaGreatDoor

/- Regions that draw their order and end with stores: a condition that is held up to ONE operation (the gate), which waits for all that read. No program. -/
namespace Go.Proofs.YtlkodgmnhphfcaaGreatDoor
open Go

section
variable {P : Program} {ops : Array Oper} {Q : Exit → Act → World → Prop} {md : Region.Mode} {S : World → Prop}

/-- Whatever order is picked from here on; S holds behind every operation that is carried out as long as g has not come up. -/
def wpAnyG (P : Program) (md : Region.Mode) (ops : Array Oper) (Q : Exit → Act → World → Prop) (S : World → Prop) (g : Nat) : Nat → Array Bool → Act → World → Prop
  | 0, listed, a, w => Region.ready md ops listed = [] ∧ Q .normal a w
  | fuel + 1, listed, a, w =>
    (Region.ready md ops listed = [] → Q .normal a w) ∧
    ∀ i ∈ Region.ready md ops listed, wpOp P ops Q i (fun a' w' => ((listed.setIfInBounds i true).getD g true = false → S w') ∧ wpAnyG P md ops Q S g fuel (listed.setIfInBounds i true) a' w') a w

theorem wpAny_of_gate {g : Nat} : ∀ (fuel : Nat) (listed : Array Bool) (a : Act) (w : World), wpAnyG P md ops Q S g fuel listed a w → wpAny P md ops Q fuel listed a w
  | 0, _, _, _, h => h
  | fuel + 1, _, _, _, h => ⟨h.1, fun i hi => wpOp_mono (fun a' w' h' => wpAny_of_gate fuel _ a' w' h'.2) (h.2 i hi)⟩

/-- g waits for i, through others too. -/
def waits (md : Region.Mode) (ops : Array Oper) : Nat → Nat → Nat → Bool
  | 0, _, _ => false
  | k + 1, g, i => match ops[g]? with
    | some o => o.after.any fun e => Region.binds md e && ((e.on == i) || waits md ops k e.on i)
    | none => false
/-- What has come up waited for nothing that has not. -/
def closedB (md : Region.Mode) (ops : Array Oper) (listed : Array Bool) : Bool := (List.range ops.size).all fun j => !listed.getD j false || match ops[j]? with
  | some o => o.after.all fun e => !Region.binds md e || listed.getD e.on false
  | none => true
def Closed (md : Region.Mode) (ops : Array Oper) (listed : Array Bool) : Prop := ∀ (j : Nat) o, ops[j]? = some o → listed.getD j false = true → ∀ e ∈ o.after, Region.binds md e = true → listed.getD e.on false = true
theorem closed_of {listed : Array Bool} (h : closedB md ops listed = true) : Closed md ops listed := fun j o ho hl e he hb => by
  have hj : j < ops.size := (Array.getElem?_eq_some_iff.1 ho).1
  have h1 := List.all_eq_true.1 h j (List.mem_range.2 hj)
  rw [hl, ho] at h1
  simp only [Bool.not_true, Bool.false_or] at h1
  have h2 := Array.all_eq_true'.1 h1 e he
  rw [hb] at h2
  simpa using h2
theorem closed_set {listed : Array Bool} {j : Nat} (h : Closed md ops listed) (hj : j ∈ Region.ready md ops listed) : Closed md ops (listed.setIfInBounds j true) := fun k o ho hl e he hb => by
  obtain ⟨_, oj, hoj, hall⟩ := mem_ready.1 hj
  refine getD_set_true ?_
  by_cases hjk : j = k
  · subst hjk
    rw [hoj] at ho
    cases ho
    exact hall e he hb
  · rw [getD_set_ne false hjk] at hl
    exact h k o ho hl e he hb
theorem waits_deps {i : Nat} {listed : Array Bool} (hc : Closed md ops listed) (hi : listed.getD i false = false) : ∀ (k g : Nat), waits md ops k g i = true → ∀ o, ops[g]? = some o → ¬ ∀ e ∈ o.after, Region.binds md e = true → listed.getD e.on false = true
  | 0, _, hw, _, _ => by simp [waits] at hw
  | k + 1, g, hw, o, ho => fun hall => by
    rw [waits, ho] at hw
    obtain ⟨e, he, hb⟩ := Array.any_eq_true'.1 hw
    simp only [Bool.and_eq_true, Bool.or_eq_true, beq_iff_eq] at hb
    have h1 := hall e he hb.1
    rcases hb.2 with h2 | h2
    · rw [h2, hi] at h1
      cases h1
    · cases hoe : ops[e.on]? with
      | none =>
        cases k with
        | zero => simp [waits] at h2
        | succ k => rw [waits, hoe] at h2; cases h2
      | some o' => exact waits_deps hc hi k e.on h2 o' hoe (fun e' he' hb' => hc e.on o' hoe h1 e' he' hb')
theorem waits_not {k g i : Nat} {listed : Array Bool} (hc : Closed md ops listed) (hw : waits md ops k g i = true) (hr : i ∈ Region.ready md ops listed) : g ∉ Region.ready md ops listed := fun hg => by
  obtain ⟨h0, oi, hoi, _⟩ := mem_ready.1 hr
  obtain ⟨_, o, ho, hall⟩ := mem_ready.1 hg
  have hi : listed.getD i false = false := by
    rcases Nat.lt_or_ge i listed.size with h' | h'
    · simp [h'] at h0 ⊢
      exact h0
    · simp [Array.getElem?_eq_none h']
  exact waits_deps hc hi k g hw o ho hall

theorem wpAnyG_first {n i g : Nat} {oi : Oper} {v : Value} (hi : ops[i]? = some oi) (hgi : waits md ops n g i = true) (hsel : ∀ (j : Nat) (o : Oper) cs b, ops[j]? = some o → o.op ≠ .select cs b)
    (hQ : ∀ c a w, Q (.panic c) (a.put oi.dst v) w → Q (.panic c) a w) :
    ∀ (fuel : Nat) (listed : Array Bool) (a : Act) (w : World),
      (∀ j oj, ops[j]? = some oj → j ≠ i → listed.getD j true = false → (∀ e ∈ oj.after, Region.binds md e = true → e.on ≠ i) → oi.apart ops oj = true) →
      i ∈ Region.ready md ops listed → listed.getD g true = false → Closed md ops listed → YieldsIf P ops S oi v a → S w →
      wpAnyG P md ops Q S g fuel (listed.setIfInBounds i true) (a.put oi.dst v) w → wpAnyG P md ops Q S g (fuel + 1) listed a w := by
  intro fuel
  induction fuel with
  | zero =>
    intro listed a w _ hr _ _ hy hS H
    refine ⟨fun h => (by rw [h] at hr; cases hr), fun j hj => ?_⟩
    by_cases hji : j = i
    · subst hji; exact hy.wpOp hi hS ⟨fun _ => hS, H⟩
    · have := ready_mono hj hji
      rw [H.1] at this
      cases this
  | succ fuel ih =>
    intro listed a w hfree hr hlg hcl hy hS H
    refine ⟨fun h => (by rw [h] at hr; cases hr), fun j hj => ?_⟩
    by_cases hji : j = i
    · subst hji; exact hy.wpOp hi hS ⟨fun _ => hS, H⟩
    · have h1 := H.2 j (ready_mono hj hji)
      have hjg : j ≠ g := fun e => waits_not hcl hgi hr (by rw [← e]; exact hj)
      have hig : i ≠ g := fun e => waits_not hcl hgi hr (by rw [← e]; exact hr)
      have hl1 : ((listed.setIfInBounds i true).setIfInBounds j true).getD g true = false := by rw [getD_set_ne true hjg, getD_set_ne true hig]; exact hlg
      have hl2 : (listed.setIfInBounds j true).getD g true = false := by rw [getD_set_ne true hjg]; exact hlg
      obtain ⟨hjun, oj, hoj, hall⟩ := mem_ready.1 hj
      have hnot : ∀ e ∈ oj.after, Region.binds md e = true → e.on ≠ i := fun e he hb heq => by
        have h1 := hall e he hb
        have h0 := (mem_ready.1 hr).1
        rw [heq] at h1
        rcases Nat.lt_or_ge i listed.size with h' | h'
        · simp [h'] at h0 h1; rw [h0] at h1; cases h1
        · simp [Array.getElem?_eq_none h'] at h1
      have h2 := wpOp_putIf hoj (hfree j oj hoj hji hjun hnot) (fun cs b => hsel i oi cs b hi) (fun cs b => hsel j oj cs b hoj) hQ hy h1
      have hfree' : ∀ k ok, ops[k]? = some ok → k ≠ i → (listed.setIfInBounds j true).getD k true = false →
          (∀ e ∈ ok.after, Region.binds md e = true → e.on ≠ i) → oi.apart ops ok = true := fun k ok hk hki hun hno => by
        refine hfree k ok hk hki ?_ hno
        by_cases hjk : j = k
        · subst hjk; exact hjun
        · rw [getD_set_ne true hjk] at hun; exact hun
      refine wpOp_mono (fun a' w' h3 => ⟨fun _ => h3.2.1 hl1, ih (listed.setIfInBounds j true) a' w' hfree' (ready_mono hr (Ne.symm hji)) hl2 (closed_set hcl hj) h3.1 (h3.2.1 hl1) ?_⟩) h2
      rw [Array.setIfInBounds_comm _ _ hji]
      exact h3.2.2

/-- Take number i first: the gate waits for it. -/
theorem wpAnyG_take {i g : Nat} {oi : Oper} {v : Value} {fuel : Nat} {listed : Array Bool} {a : Act} {w : World} (hi : ops[i]? = some oi)
    (hs : Region.noSelect ops = true) (hf : Region.free md ops listed i = true) (hr : (Region.ready md ops listed).contains i = true) (hg : (waits md ops 6 g i && !listed.getD g true && closedB md ops listed) = true)
    (hQ : ∀ c a w, Q (.panic c) (a.put oi.dst v) w → Q (.panic c) a w) (hy : YieldsIf P ops S oi v a) (hS : S w)
    (h : wpAnyG P md ops Q S g fuel (listed.setIfInBounds i true) (a.put oi.dst v) w) : wpAnyG P md ops Q S g (fuel + 1) listed a w := by
  simp only [Bool.and_eq_true, Bool.not_eq_true'] at hg
  exact wpAnyG_first hi hg.1.1 (Region.noSelect_spec hs) hQ fuel listed a w (Region.free_spec hi hf) (by simpa using hr) hg.1.2 (closed_of hg.2) hy hS h

/-- Take number i first, though the gate does not wait for it: it yields in whatever world. -/
theorem wpAnyG_firstFree {i g : Nat} {oi : Oper} {v : Value} (hi : ops[i]? = some oi) (hig : i ≠ g) (hsel : ∀ (j : Nat) (o : Oper) cs b, ops[j]? = some o → o.op ≠ .select cs b)
    (hQ : ∀ c a w, Q (.panic c) (a.put oi.dst v) w → Q (.panic c) a w) :
    ∀ (fuel : Nat) (listed : Array Bool) (a : Act) (w : World),
      (∀ j oj, ops[j]? = some oj → j ≠ i → listed.getD j true = false → (∀ e ∈ oj.after, Region.binds md e = true → e.on ≠ i) → oi.apart ops oj = true) →
      i ∈ Region.ready md ops listed → YieldsIf P ops (fun _ => True) oi v a → (listed.getD g true = false → S w) →
      wpAnyG P md ops Q S g fuel (listed.setIfInBounds i true) (a.put oi.dst v) w → wpAnyG P md ops Q S g (fuel + 1) listed a w := by
  intro fuel
  induction fuel with
  | zero =>
    intro listed a w _ hr hy hS H
    refine ⟨fun h => (by rw [h] at hr; cases hr), fun j hj => ?_⟩
    by_cases hji : j = i
    · subst hji
      exact hy.wpOp hi trivial ⟨fun hl => hS (by rw [getD_set_ne true hig] at hl; exact hl), H⟩
    · have := ready_mono hj hji
      rw [H.1] at this
      cases this
  | succ fuel ih =>
    intro listed a w hfree hr hy hS H
    refine ⟨fun h => (by rw [h] at hr; cases hr), fun j hj => ?_⟩
    by_cases hji : j = i
    · subst hji
      exact hy.wpOp hi trivial ⟨fun hl => hS (by rw [getD_set_ne true hig] at hl; exact hl), H⟩
    · have h1 := H.2 j (ready_mono hj hji)
      obtain ⟨hjun, oj, hoj, hall⟩ := mem_ready.1 hj
      have hnot : ∀ e ∈ oj.after, Region.binds md e = true → e.on ≠ i := fun e he hb heq => by
        have h1 := hall e he hb
        have h0 := (mem_ready.1 hr).1
        rw [heq] at h1
        rcases Nat.lt_or_ge i listed.size with h' | h'
        · simp [h'] at h0 h1; rw [h0] at h1; cases h1
        · simp [Array.getElem?_eq_none h'] at h1
      have h2 := wpOp_putIf hoj (hfree j oj hoj hji hjun hnot) (fun cs b => hsel i oi cs b hi) (fun cs b => hsel j oj cs b hoj) hQ hy h1
      have hfree' : ∀ k ok, ops[k]? = some ok → k ≠ i → (listed.setIfInBounds j true).getD k true = false →
          (∀ e ∈ ok.after, Region.binds md e = true → e.on ≠ i) → oi.apart ops ok = true := fun k ok hk hki hun hno => by
        refine hfree k ok hk hki ?_ hno
        by_cases hjk : j = k
        · subst hjk; exact hjun
        · rw [getD_set_ne true hjk] at hun; exact hun
      have hl1 : (listed.setIfInBounds j true).getD g true = false → ((listed.setIfInBounds i true).setIfInBounds j true).getD g true = false := fun hl => by
        rw [Array.setIfInBounds_comm _ _ (Ne.symm hji), getD_set_ne true hig]
        exact hl
      refine wpOp_mono (fun a' w' h3 => ⟨fun hl => h3.2.1 (hl1 hl), ih (listed.setIfInBounds j true) a' w' hfree' (ready_mono hr (Ne.symm hji)) h3.1 (fun hl => h3.2.1 (hl1 hl)) ?_⟩) h2
      rw [Array.setIfInBounds_comm _ _ hji]
      exact h3.2.2
theorem wpAnyG_takeFree {i g : Nat} {oi : Oper} {v : Value} {fuel : Nat} {listed : Array Bool} {a : Act} {w : World} (hi : ops[i]? = some oi)
    (hs : Region.noSelect ops = true) (hf : Region.free md ops listed i = true) (hr : (Region.ready md ops listed).contains i = true) (hg : (!(i == g)) = true)
    (hQ : ∀ c a w, Q (.panic c) (a.put oi.dst v) w → Q (.panic c) a w) (hy : YieldsIf P ops (fun _ => True) oi v a) (hS : S w)
    (h : wpAnyG P md ops Q S g fuel (listed.setIfInBounds i true) (a.put oi.dst v) w) : wpAnyG P md ops Q S g (fuel + 1) listed a w :=
  wpAnyG_firstFree hi (by simpa using hg) (Region.noSelect_spec hs) hQ fuel listed a w (Region.free_spec hi hf) (by simpa using hr) hy (fun _ => hS) h

/-- Each of the operations rs comes up next; behind it S holds. -/
def AllReadyG (P : Program) (md : Region.Mode) (ops : Array Oper) (Q : Exit → Act → World → Prop) (S : World → Prop) (g fuel : Nat) (listed : Array Bool) (a : Act) (w : World) (rs : List Nat) : Prop :=
  ∀ i ∈ rs, wpOp P ops Q i (fun a' w' => S w' ∧ wpAnyG P md ops Q S g fuel (listed.setIfInBounds i true) a' w') a w
theorem AllReadyG.nil {g fuel : Nat} {listed : Array Bool} {a : Act} {w : World} : AllReadyG P md ops Q S g fuel listed a w [] := fun _ h => by cases h
theorem AllReadyG.cons {g fuel : Nat} {listed : Array Bool} {a : Act} {w : World} {i : Nat} {o : Oper} {rs : List Nat} (ho : ops[i]? = some o)
    (h : ∀ K' : Act → World → Prop, Shut (∀ a w, S w → (S w → wpAnyG P md ops Q S g fuel (listed.setIfInBounds i true) a w) → K' a w) → if Region.wanted o (yielded ops a.tmps) = true then Oper.wp P o a w K' Q else K' (a.put o.dst undef) w)
    (hs : AllReadyG P md ops Q S g fuel listed a w rs) : AllReadyG P md ops Q S g fuel listed a w (i :: rs) := fun j hj => by
  rcases List.mem_cons.1 hj with rfl | hj
  · exact wpOp_step ho (fun K' hK => h K' (fun a w hS hW => hK a w ⟨hS, hW hS⟩))
  · exact hs j hj
theorem wpAnyG_ready {g : Nat} {rs : List Nat} {fuel : Nat} {listed : Array Bool} {a : Act} {w : World} (hr : Region.ready md ops listed = rs) (hne : rs ≠ [])
    (h : AllReadyG P md ops Q S g fuel listed a w rs) : wpAnyG P md ops Q S g (fuel + 1) listed a w :=
  ⟨fun h0 => absurd (hr ▸ h0) hne, fun i hi => wpOp_mono (fun _ _ h' => ⟨fun _ => h'.1, h'.2⟩) (h i (hr ▸ hi))⟩

/-- Behind the gate nothing is held any more. -/
theorem wpAnyG_of_free {g : Nat} : ∀ {fuel : Nat} {listed : Array Bool} {a : Act} {w : World}, listed.getD g true = true → wpAnyH P md ops Q (fun _ => True) fuel listed a w → wpAnyG P md ops Q S g fuel listed a w
  | 0, _, _, _, _, h => h
  | fuel + 1, listed, _, _, hl, h => ⟨h.1, fun i hi => wpOp_mono (fun a' w' h' => by
      have hl' : (listed.setIfInBounds i true).getD g true = true := by
        by_cases hig : i = g
        · subst hig
          rcases Nat.lt_or_ge i listed.size with h' | h' <;> simp [h']
        · rw [getD_set_ne true hig]; exact hl
      exact ⟨fun h0 => (by rw [hl'] at h0; cases h0), wpAnyG_of_free hl' h'.2⟩) (h.2 i hi)⟩
/-- The gate itself, alone ready, and yielding in whatever world. -/
theorem wpAnyG_gate {g : Nat} {og : Oper} {v : Value} {fuel : Nat} {listed : Array Bool} {a : Act} {w : World} (hi : ops[g]? = some og) (hr : Region.ready md ops listed = [g]) (hy : YieldsIf P ops (fun _ => True) og v a)
    (h : wpAnyH P md ops Q (fun _ => True) fuel (listed.setIfInBounds g true) (a.put og.dst v) w) : wpAnyG P md ops Q S g (fuel + 1) listed a w := by
  have hl : (listed.setIfInBounds g true).getD g true = true := by rcases Nat.lt_or_ge g listed.size with h' | h' <;> simp [h']
  refine ⟨fun h0 => (by rw [hr] at h0; cases h0), fun i hi' => ?_⟩
  rw [hr] at hi'
  simp only [List.mem_cons, List.not_mem_nil, or_false] at hi'
  subst hi'
  exact hy.wpOp hi trivial ⟨fun h0 => (by rw [hl] at h0; cases h0), wpAnyG_of_free hl h⟩
/-- The gate itself, alone ready: a store, or whatever. -/
theorem wpAnyG_gateOp {g : Nat} {og : Oper} {fuel : Nat} {listed : Array Bool} {a : Act} {w : World} (ho : ops[g]? = some og) (hr : Region.ready md ops listed = [g])
    (h : ∀ K' : Act → World → Prop, Shut (∀ a w, True → (True → wpAnyH P md ops Q (fun _ => True) fuel (listed.setIfInBounds g true) a w) → K' a w) → if Region.wanted og (yielded ops a.tmps) = true then Oper.wp P og a w K' Q else K' (a.put og.dst undef) w) :
    wpAnyG P md ops Q S g (fuel + 1) listed a w := by
  have hl : (listed.setIfInBounds g true).getD g true = true := by rcases Nat.lt_or_ge g listed.size with h' | h' <;> simp [h']
  refine ⟨fun h0 => (by rw [hr] at h0; cases h0), fun i hi' => ?_⟩
  rw [hr] at hi'
  simp only [List.mem_cons, List.not_mem_nil, or_false] at hi'
  subst hi'
  exact wpOp_step ho (fun K' hK => h K' (fun a w _ hW => hK a w ⟨fun h0 => (by rw [hl] at h0; cases h0), wpAnyG_of_free hl (hW trivial)⟩))
theorem wp_region_gate_drew {id g : Nat} {a : Act} {w : World} (hm : P.follows .mixedOrders = true) (hS : S w.drew)
    (h : S w.drew → wpAnyG P .any ops Q S g ops.size (Array.replicate ops.size false) a w.drew) : (Code.region id ops true).wp P Q a w :=
  wp_region_any hm (wpAny_of_gate _ _ _ _ (h hS))
theorem wpAnyG_mono {g : Nat} {S' : World → Prop} (h : ∀ x, S' x → S x) : ∀ {fuel : Nat} {listed : Array Bool} {a : Act} {w : World}, wpAnyG P md ops Q S' g fuel listed a w → wpAnyG P md ops Q S g fuel listed a w
  | 0, _, _, _, hh => hh
  | _ + 1, _, _, _, hh => ⟨hh.1, fun i hi => wpOp_mono (fun _ _ q => ⟨fun h0 => h _ (q.1 h0), wpAnyG_mono h q.2⟩) (hh.2 i hi)⟩
end

/-- A region by a name for its operations. -/
theorem swap_ops {P : Program} {id : Nat} {ops ops' : Array Oper} {b : Bool} {Q : Exit → Act → World → Prop} {a : Act} {w : World} (h : ops = ops') (hw : (Code.region id ops' b).wp P Q a w) : (Code.region id ops b).wp P Q a w := by
  rw [h]
  exact hw

section
variable {P : Program} {ops : Array Oper} {Q : Exit → Act → World → Prop} {S : World → Prop}
/-- A region in the order of its text, by the operations' numbers. -/
theorem wp_region_seq {id : Nat} {l : List Nat} {a : Act} {w : World} (hl : List.range ops.size = l) (h : wpOps P ops Q l a w) : (Code.region id ops false).wp P Q a w := wp_region (by rw [hl]; exact h)
theorem wpOps_val {i : Nat} {oi : Oper} {v : Value} {rest : List Nat} {a : Act} {w : World} (hi : ops[i]? = some oi) (hy : YieldsIf P ops S oi v a) (hS : S w) (h : wpOps P ops Q rest (a.put oi.dst v) w) : wpOps P ops Q (i :: rest) a w := by
  rw [wpOps_cons]
  exact hy.wpOp hi hS h
theorem wpOps_end {a : Act} {w : World} (h : Q .normal a w) : wpOps P ops Q [] a w := h
end

/-- An append onto a row of the call's own, inside a drawing region. -/
theorem step_appG {P : Program} {ops : Array Oper} {o : Oper} {a : Act} {w : World} {K : Act → World → Prop} {Q : Exit → Act → World → Prop} {E : Prop}
    (hwt : Region.wanted o (yielded ops a.tmps) = true) (s x : Operand) (t tx : TypeId) (hop : o.op = .call { callee := .builtin .append, args := #[s, x], argTypes := #[t, tx] })
    (base : Nat) (e : TypeId) (i : TypeInfo) (z : Value) (size bytes : Nat) (ht : P.underlying t = some (.slice e)) (hi : P.info? e = some i) (hz : i.zero = some z)
    (hsize : i.size = size) (hby : i.bytes = bytes) (hzs : z.cells.size = size)
    (v : Value) (n : Nat) (xs : List Value) (hs : a.eval s = v) (hown : w.ownsRow base e size v n xs)
    (xv : Value) (m : Nat) (news : List Value) (hx : a.eval x = xv) (hsrc : Src P size tx xv m news w)
    (h63 : n + m ≤ maxLen) (hbytes : ∀ old, old < n + m → Builtin.nextslicecap (n + m) old * bytes ≤ 281474976710656) (hbase : base ≤ w.heap.size)
    (h : ∀ v' w', w'.ownsRow base e size v' (n + m) (xs ++ news) → w.grownBy w' v.ownBlock → K (a.put o.dst v') w') :
    if Region.wanted o (yielded ops a.tmps) = true then Oper.wp P o a w K Q else E := by
  rw [if_pos hwt]
  obtain ⟨v', w', hr, h2, h3⟩ := run_append_own_src (P := P) w base t tx o.type e i z size bytes ht hi hz hsize hby hzs v n xs hown xv m news hsrc h63 hbytes hbase
  unfold Oper.wp
  simp [execOp, hop, resolve, invoke, builtin, hs, hx, hr, Result.andThen]
  exact h v' w' h2 h3
end Go.Proofs.YtlkodgmnhphfcaaGreatDoor

/- An append onto a row of the call's own, and where the new row lies. Over any program. -/
namespace Go.Proofs.YtlkodgmnhphfcaaGreatDoor
open Go Go.RowKit

section
variable {P : Program} (w : World)
/-- As 'run_append_own_src', and where the new row lies. -/
theorem run_append_own_at (base : Nat) (t tx ty e : TypeId) (i : TypeInfo) (z : Value) (size bytes : Nat) (ht : P.underlying t = some (.slice e)) (hi : P.info? e = some i) (hz : i.zero = some z)
    (hsize : i.size = size) (hby : i.bytes = bytes) (hzs : z.cells.size = size)
    (v : Value) (n : Nat) (xs : List Value) (hown : w.ownsRow base e size v n xs)
    (x : Value) (m : Nat) (news : List Value) (hs : Src P size tx x m news w)
    (h63 : n + m ≤ maxLen) (hbytes : ∀ old, old < n + m → Builtin.nextslicecap (n + m) old * bytes ≤ 281474976710656) (hbase : base ≤ w.heap.size) :
    ∃ v' w', (Builtin.append_ #[t, tx] ty #[v, x]).run P w = .ok v' w' ∧ w'.ownsRow base e size v' (n + m) (xs ++ news) ∧ w.grownBy w' v.ownBlock ∧ (v'.ownBlock = v.ownBlock ∨ v'.ownBlock = some w.heap.size) := by
  obtain ⟨v', w', hr, h1, h2⟩ := run_append_own_src (P := P) w base t tx ty e i z size bytes ht hi hz hsize hby hzs v n xs hown x m news hs h63 hbytes hbase
  refine ⟨v', w', hr, h1, h2, ?_⟩
  subst hsize
  subst hby
  have hl := hs.newsLen
  have hsmall : n + m ≤ 9223372036854775807 := by simp only [maxLen] at h63; omega
  rcases hown.2 with ⟨rfl, rfl⟩ | ⟨g, cap, cur, rfl, hbg, hg, hnc, hcm, hcs, htake⟩
  · by_cases hm : m = 0
    · subst hm
      have hn : news = [] := List.eq_nil_of_length_eq_zero (by simpa using hl)
      subst hn
      have hr' : (Builtin.append_ #[t, tx] ty #[.slice none 0 0, x]).run P w = .ok (.slice none 0 0) w := by
        rcases hs.kind with ⟨e', hk⟩ | hk <;> simp [Builtin.append_, run_underlying ht, run_underlying hk, sizeOf, typeInfo, hi, hs.len, hs.cells]
      have := hr.symm.trans hr'
      simp only [Result.ok.injEq] at this
      exact .inl (by rw [this.1])
    · have hr' := run_append_grow_src (P := P) w t tx ty e i z ht hi hz none 0 0 [] (run_firstCells_none w.drew i.size 0 0 0) x m news hs (by omega) (by omega) (hbytes _ (by omega))
      have := hr.symm.trans hr'
      simp only [Result.ok.injEq] at this
      exact .inr (by rw [this.1]; rfl)
  · by_cases hroom : n + m ≤ cap
    · have hfit : n * i.size + news.length ≤ cur.size := by rw [hl, hcs, ← Nat.add_mul]; exact Nat.mul_le_mul_right _ hroom
      have hr' := run_append_room_own (P := P) (ty := ty) w t tx e i ht hi g n cap cur hg x m news hs hroom hfit
      have := hr.symm.trans hr'
      simp only [Result.ok.injEq] at this
      exact .inl (by rw [this.1]; rfl)
    · have holds : ∀ j u, xs[j]? = some u → w.cell? ((⟨g, 0, none⟩ : Addr).add j) = some u := hown.cells (g := g) rfl
      have hold := run_firstCells_some (P := P) w.drew i.size n ⟨g, 0, none⟩ n cap xs hown.1 (by simpa using holds)
      have hr' := run_append_grow_src (P := P) w t tx ty e i z ht hi hz (some ⟨g, 0, none⟩) n cap xs hold x m news hs (by omega) (by omega) (hbytes _ (by omega))
      have := hr.symm.trans hr'
      simp only [Result.ok.injEq] at this
      exact .inr (by rw [this.1]; rfl)

theorem wpList_append_own_at {ops : Array Oper} {rest : List Oper} {o : Oper} {a : Act} {Q : Exit → Act → World → Prop} (hgd : o.guard = none) (s x : Operand) (t tx : TypeId)
    (ho : o.op = .call { callee := .builtin .append, args := #[s, x], argTypes := #[t, tx] })
    (base : Nat) (e : TypeId) (i : TypeInfo) (z : Value) (size bytes : Nat) (ht : P.underlying t = some (.slice e)) (hi : P.info? e = some i) (hz : i.zero = some z)
    (hsize : i.size = size) (hby : i.bytes = bytes) (hzs : z.cells.size = size)
    (v : Value) (n : Nat) (xs : List Value) (hs : a.eval s = v) (hown : w.ownsRow base e size v n xs)
    (xv : Value) (m : Nat) (news : List Value) (hx : a.eval x = xv) (hsrc : Src P size tx xv m news w)
    (h63 : n + m ≤ maxLen) (hbytes : ∀ old, old < n + m → Builtin.nextslicecap (n + m) old * bytes ≤ 281474976710656) (hbase : base ≤ w.heap.size)
    (h : ∀ v' w', w'.ownsRow base e size v' (n + m) (xs ++ news) → w.grownBy w' v.ownBlock → (v'.ownBlock = v.ownBlock ∨ v'.ownBlock = some w.heap.size) → wpList P ops Q rest (a.put o.dst v') w') : wpList P ops Q (o :: rest) a w :=
  wpList_plain hgd fun K hK => by
    obtain ⟨v', w', hr, h2, h3, h4⟩ := run_append_own_at (P := P) w base t tx o.type e i z size bytes ht hi hz hsize hby hzs v n xs hown xv m news hsrc h63 hbytes hbase
    unfold Oper.wp execOp
    simp only [ho, resolve, invoke, builtin, Sem.run_bind, Sem.run_pure, Result.andThen_ok, List.map_toArray, List.map_cons, List.map_nil, hs, hx, hr]
    exact hK _ _ (h v' w' h2 h3 h4)
end
end Go.Proofs.YtlkodgmnhphfcaaGreatDoor

/- Append on a row of one's own, with the place where the new row lies, in a drawing region. -/
namespace Go.Proofs.YtlkodgmnhphfcaaGreatDoor
open Go Go.RowKit

section
variable {P : Program} (w : World)
/-- As 'step_appG', and where the new row lies. -/
theorem step_appP {ops : Array Oper} {o : Oper} {a : Act} {K : Act → World → Prop} {Q : Exit → Act → World → Prop} {E : Prop}
    (hwt : Region.wanted o (yielded ops a.tmps) = true) (s x : Operand) (t tx : TypeId) (hop : o.op = .call { callee := .builtin .append, args := #[s, x], argTypes := #[t, tx] })
    (base : Nat) (e : TypeId) (i : TypeInfo) (z : Value) (size bytes : Nat) (ht : P.underlying t = some (.slice e)) (hi : P.info? e = some i) (hz : i.zero = some z)
    (hsize : i.size = size) (hby : i.bytes = bytes) (hzs : z.cells.size = size)
    (v : Value) (n : Nat) (xs : List Value) (hs : a.eval s = v) (hown : w.ownsRow base e size v n xs)
    (xv : Value) (m : Nat) (news : List Value) (hx : a.eval x = xv) (hsrc : Src P size tx xv m news w)
    (h63 : n + m ≤ maxLen) (hbytes : ∀ old, old < n + m → Builtin.nextslicecap (n + m) old * bytes ≤ 281474976710656) (hbase : base ≤ w.heap.size)
    (h : ∀ v' w', w'.ownsRow base e size v' (n + m) (xs ++ news) → w.grownBy w' v.ownBlock → (v'.ownBlock = v.ownBlock ∨ v'.ownBlock = some w.heap.size) → K (a.put o.dst v') w') :
    if Region.wanted o (yielded ops a.tmps) = true then Oper.wp P o a w K Q else E := by
  rw [if_pos hwt]
  obtain ⟨v', w', hr, h2, h3, h4⟩ := run_append_own_at (P := P) w base t tx o.type e i z size bytes ht hi hz hsize hby hzs v n xs hown xv m news hsrc h63 hbytes hbase
  unfold Oper.wp
  simp [execOp, hop, resolve, invoke, builtin, hs, hx, hr, Result.andThen]
  exact h v' w' h2 h3 h4
end
end Go.Proofs.YtlkodgmnhphfcaaGreatDoor

/- Images, as both want them: the law's Images. Written by paint/mk_ptc.py. -/
namespace Go.Proofs.YtlkodgmnhphfcaaGreatDoor
open Go Go.RowKit

def gcs (l : List Gv) : List Value := l.flatMap fun g => (gvv g).toList
theorem gcs_append (a b : List Gv) : gcs (a ++ b) = gcs a ++ gcs b := by simp [gcs]
theorem gcs_at {l : List Gv} {j : Nat} {g : Gv} (hj : l[j]? = some g) {i : Nat} {v : Value} (hi : (gvv g)[i]? = some v) : (gcs l)[j * 4 + i]? = some v := by
  induction l generalizing j with
  | nil => simp at hj
  | cons x l ih =>
    have hc : gcs (x :: l) = (gvv x).toList ++ gcs l := rfl
    rw [hc]
    cases j with
    | zero =>
      simp only [List.getElem?_cons_zero, Option.some.injEq] at hj
      subst hj
      have : i < (gvv x).toList.length := by simpa using (Array.getElem?_eq_some_iff.1 hi).1
      rw [Nat.zero_mul, Nat.zero_add, List.getElem?_append_left this]
      simpa using hi
    | succ j =>
      have h7 : (gvv x).toList.length = 4 := rfl
      rw [List.getElem?_append_right (by rw [h7]; omega), h7, show (j + 1) * 4 + i - 4 = j * 4 + i by omega]
      exact ih (by simpa using hj)
theorem gvv_one (g : Gv) : ∀ u ∈ (gvv g).toList, u.oneCell' = true := by
  intro u hu
  simp only [gvv, List.mem_cons, List.not_mem_nil, or_false] at hu
  rcases hu with rfl | rfl | rfl | rfl <;> rfl
/-- A row of images of the call's own; none of their points lies in the row. -/
structure OwG (e : Nat) (w u : World) (v : Value) (l : List Gv) : Prop where
  own : u.ownsRow w.heap.size e 4 v l.length (gcs l)
  bel : Below w.heap.size w u
  ok : ∀ g ∈ l, GOk u g
  ap : ∀ g ∈ l, 0 < g.n → ∀ x, g.a = some x → v.ownBlock ≠ some x.block
theorem OwG.nil (e : Nat) (w : World) : OwG e w w (.slice none 0 0) [] := ⟨World.ownsRow_nil _ _ _ _, Below.refl _ _, by simp, by simp⟩
theorem OwG.on {e : Nat} {w u u' : World} {v : Value} {l : List Gv} (h : OwG e w u v l) (hb : Below u.heap.size u u') : OwG e w u' v l := ⟨ownsRow_below h.own hb, Below.on h.bel hb, fun x hx => (h.ok x hx).on hb, h.ap⟩
theorem OwG.more {e : Nat} {w u u' : World} {v v' : Value} {l : List Gv} {x : Gv} (h : OwG e w u v l) (hx : GOk u x) (hxa : 0 < x.n → ∀ y, x.a = some y → v.ownBlock ≠ some y.block)
    (o2 : u'.ownsRow w.heap.size e 4 v' (l.length + 1) (gcs l ++ (gvv x).toList)) (g : u.grownBy u' v.ownBlock) (p : v'.ownBlock = v.ownBlock ∨ v'.ownBlock = some u.heap.size) : OwG e w u' v' (l ++ [x]) := by
  have hall : ∀ y ∈ l ++ [x], GOk u y ∧ (0 < y.n → ∀ z, y.a = some z → v.ownBlock ≠ some z.block) := fun y hy => by
    rcases List.mem_append.1 hy with hy | hy
    · exact ⟨h.ok y hy, h.ap y hy⟩
    · obtain rfl := List.mem_singleton.1 hy
      exact ⟨hx, hxa⟩
  refine ⟨by rw [List.length_append, gcs_append]; simpa [gcs] using o2, h.bel.grown g h.bel.size (fun k hk => (h.own.lt k hk).1), fun y hy => (hall y hy).1.kp (kp_of_grown g) (fun hn z hz hm => (hall y hy).2 hn z hz (by simpa using hm)), fun y hy hn z hz => ?_⟩
  rcases p with p | p
  · rw [p]
    exact (hall y hy).2 hn z hz
  · intro e2
    rw [p] at e2
    obtain ⟨b, off, e3, h4, _⟩ := (hall y hy).1.px.plain hn
    rw [hz] at e3
    cases e3
    simp only [Option.some.injEq] at e2
    omega
theorem OwG.rd {e : Nat} {w u : World} {v : Value} {l : List Gv} (h : OwG e w u v l) : ∃ a c, v = .slice a l.length c ∧ RdG u a l.length c l := by
  rcases h.own.2 with ⟨rfl, h0⟩ | ⟨g, cap, cur, rfl, hb, hg, hn, hm, _, _⟩
  · obtain rfl : l = [] := List.eq_nil_of_length_eq_zero h0
    exact ⟨none, 0, rfl, RdG.nil u⟩
  · exact ⟨_, cap, rfl, ⟨rfl, hn, hm, (fun h => by cases h), fun _ => ⟨g, 0, rfl, (h.own.lt g rfl).2, fun j x hj i v hv => by
      have hi : i < 4 := by simpa [gvv] using (Array.getElem?_eq_some_iff.1 hv).1
      have hjl := (List.getElem?_eq_some_iff.1 hj).1
      rw [Nat.zero_add, h.own.cellAt _ (by omega)]
      exact gcs_at hj hv⟩, h.ok⟩⟩
theorem src_gv {P : Program} {T TS : Nat} (hu : P.underlying TS = some (.slice T)) (U : World) (g : Gv) : Src P 4 TS (.slice (some ⟨U.heap.size, 0, none⟩) 1 1) 1 (gvv g).toList (U.alloc (.cells (gvv g) T)) := by
  refine Src.ofSlice _ hu ⟨U.heap.size, 0, none⟩ 1 1 (gvv g).toList rfl (fun j u hu => ?_) (gvv_one g)
  rw [Go.WideShapes.add_plain, Nat.zero_add, Lib.cell_of_heap (heap_alloc_new U _)]
  simpa using hu
theorem fits48' {need : Nat} (h : need ≤ 1000000000) : ∀ old, old < need → Builtin.nextslicecap need old * 48 ≤ 281474976710656 := fun old ho => by
  have h1 := nextslicecap_near ho
  omega
theorem gtake_one {α : Type} {l : List α} {k : Nat} {y : α} (h : l[k]? = some y) : l.take (k + 1) = l.take k ++ [y] := by
  obtain ⟨hk, rfl⟩ := List.getElem?_eq_some_iff.1 h
  exact List.take_succ_eq_append_getElem hk

/-- Whether there are not too many. -/
def imOk (gs : List Gv) : Bool := decide (gs.length ≤ 8) && gs.all fun g => decide (g.n ≤ 400)
theorem imOk_le {gs : List Gv} (h : imOk gs = true) : ∀ g ∈ gs, g.n ≤ 400 := by
  rw [imOk, Bool.and_eq_true, List.all_eq_true] at h
  exact fun g hg => of_decide_eq_true (h.2 g hg)
/-- What Images answers. -/
def ImR (w : World) (gs : List Gv) (e : Ending) (w' : World) : Prop := ∃ v, e = .returned (.tuple #[v, .bool (imOk gs)]) ∧ Below w.heap.size w w' ∧ (imOk gs = true → ∃ a n c hs, v = .slice a n c ∧ RdG w' a n c hs ∧ hs.map gcl = gs.map gcl ∧ ∀ g ∈ hs, g.n ≤ 400)

theorem infoImP : (Tryz.prog.info? 60).map (fun i => (i.zero, i.size, i.bytes)) = some (some (.agg #[.int .i64 0, .int .i64 0, .int .i64 0, .slice none 0 0]), 4, 48) := by kernel_rfl
theorem infoImPp : ∃ i, Tryz.prog.info? 60 = some i ∧ i.zero = some (.agg #[.int .i64 0, .int .i64 0, .int .i64 0, .slice none 0 0]) ∧ i.size = 4 ∧ i.bytes = 48 := by
  obtain ⟨i, h1, h2⟩ := Option.map_eq_some_iff.1 infoImP
  simp only [Prod.mk.injEq] at h2
  exact ⟨i, h1, h2.1, h2.2.1, h2.2.2⟩
set_option maxRecDepth 100000 in
set_option maxHeartbeats 4000000 in
theorem images_any (a : Option Addr) (n c : Nat) (gs : List Gv) (w : World) (hr : RdG w a n c gs) :
    Calls Tryz.prog 6 #[.slice a n c] w (ImR w gs) := by
  obtain ⟨i0, hi, hi0, hi1, hi2⟩ := infoImPp
  have hs := hr.small
  have HL := hid hr.len
  have HR := hid hr
  obtain ⟨R, hR⟩ : ∃ R, R = ImR w gs := ⟨_, rfl⟩
  have HNO : Hid (∀ x, imOk gs = false → Below w.heap.size w x → R (.returned (.tuple #[.slice none 0 0, .bool false])) x) := fun x h hb => by
    rw [hR]
    exact ⟨_, by rw [h], hb, fun h2 => by rw [h] at h2; cases h2⟩
  have HYES : Hid (∀ x a c hl, n ≤ 8 → (∀ g ∈ gs, g.n ≤ 400) → OwG 60 w x (.slice a n c) hl → hl.map gcl = gs.map gcl → (∀ g ∈ hl, g.n ≤ 400) → R (.returned (.tuple #[.slice a n c, .bool true])) x) := fun x a c hl h1 h2 hO hE h3 => by
    have hok : imOk gs = true := by
      rw [imOk, Bool.and_eq_true, decide_eq_true_eq, List.all_eq_true]
      exact ⟨by rw [HL.out]; exact h1, fun g hg => decide_eq_true (h2 g hg)⟩
    obtain ⟨a', c', e1, hrd⟩ := hO.rd
    rw [hR]
    refine ⟨_, by rw [hok], hO.bel, fun _ => ⟨a', hl.length, c', hl, e1, hrd, hE, h3⟩⟩
  rw [← hR]
  clear hr hR
  go_enter Tryz.func6, Tryz.ntmps6
  go_wp2
  go_loopw [4, 5] (fun v i wr => ∃ (j : Nat) (hl : List Gv), i = .int .i64 j ∧ j ≤ n ∧ hl.length = j ∧ OwG 60 w wr v hl ∧ hl.map gcl = (gs.take j).map gcl ∧ (∀ g ∈ hl, g.n ≤ 400) ∧ (∀ g ∈ gs.take j, g.n ≤ 400) ∧ (0 < j → n ≤ 8)) (fun _ i _ => n - (numOf i).toNat)
  case atStart => exact ⟨0, [], rfl, by omega, rfl, OwG.nil _ _, rfl, by simp, by simp, by omega⟩
  case round =>
    obtain ⟨j, hl, rfl, hj, hlj, hO, hE, hB, hB2, hj8⟩ := hrel
    have HLJ := hid hlj
    have HO := hid hO
    have HE := hid hE
    have HB := hid hB
    have HB2 := hid hB2
    obtain ⟨a1, c1, rfl, _⟩ := hO.rd
    rw [HLJ.out] at HO ⊢
    clear hO hE hB hB2 hlj
    by_cases hgo : j < n
    · have e1 : decide ((j : Int) < n) = true := decide_eq_true (by omega)
      have e2 : (j : Int) < n := by omega
      by_cases h8 : 8 < n
      · have e3 : decide ((8 : Int) < n) = true := decide_eq_true (by omega)
        have HF := hid (HNO.out wr (by rw [imOk, decide_eq_false (by rw [HL.out]; omega), Bool.false_and]) HO.out.bel)
        clear HNO HYES
        go_wp2
        exact HF.out
      have e3 : decide ((8 : Int) < n) = false := decide_eq_false (by omega)
      obtain ⟨b, off, g, rfl, hb, hg, hok, _⟩ := HR.out.el hgo
      obtain ⟨_, _, _, q1, q2, q3, q4, d0, d1, d2, d3⟩ := HR.out.el hgo
      cases q1
      rw [hg] at q3
      cases q3
      have y3 := (HO.out.bel.cell hb).trans d3
      have HG := hid hg
      have HOK := hid hok
      by_cases h4 : 400 < g.n
      · have e4 : decide ((400 : Int) < g.n) = true := decide_eq_true (by omega)
        have HF := hid (HNO.out wr (by
          rw [imOk, Bool.and_eq_false_iff]
          refine .inr ?_
          rw [List.all_eq_false]
          exact ⟨g, List.mem_of_getElem? HG.out, by simp; omega⟩) HO.out.bel)
        clear HNO HYES hg hok q4 d0 d1 d2 d3
        go_wp2
        exact HF.out
      have e4 : decide ((400 : Int) < g.n) = false := decide_eq_false (by omega)
      obtain ⟨g0, g1, g2, ga, gn, gc, gl⟩ := g
      dsimp only at d0 d1 d2 d3 y3 h4 e4
      clear HNO HYES hg hok q4
      go_wp2
      have HW : Hid (RowKit.Below wr.heap.size wr wr.drew) := (Below.refl _ _).drew

      refine wp_region_held_drew (S := fun x => RowKit.Below w.heap.size w x) (by kernel_rfl) ?hh (fun hHeld => ?_)
      case hh => exact (HO.out.bel.drew)
      generalize World.drew _ = W0 at hHeld HW ⊢
      try dsimp only at hHeld
      refine wpAnyH_take (i := 0) (v := ?_) rfl (by kernel_rfl) (by kernel_rfl) (by kernel_rfl) (fun _ _ _ h => h) (Or.inl ⟨by kernel_rfl, ?hy0⟩) (by assumption) ?_
      case hy0 => (intro wI hSw; (try dsimp only at hSw); have k0 := (hSw.cell hb).trans d0; have k1 := (hSw.cell hb).trans d1; have k2 := (hSw.cell hb).trans d2; have k3 := (hSw.cell hb).trans d3; go_simp; try with_reducible rfl)
      try simp only [Act.put, List.getElem_toArray, List.getElem_cons_zero, List.setIfInBounds_toArray, List.set_cons_zero, List.set_cons_succ]
      refine wpAnyH_take (i := 1) (v := ?_) rfl (by kernel_rfl) (by kernel_rfl) (by kernel_rfl) (fun _ _ _ h => h) (Or.inl ⟨by kernel_rfl, ?hy1⟩) (by assumption) ?_
      case hy1 => (intro wI hSw; (try dsimp only at hSw); have k0 := (hSw.cell hb).trans d0; have k1 := (hSw.cell hb).trans d1; have k2 := (hSw.cell hb).trans d2; have k3 := (hSw.cell hb).trans d3; go_simp; try with_reducible rfl)
      try simp only [Act.put, List.getElem_toArray, List.getElem_cons_zero, List.getElem_cons_succ, List.setIfInBounds_toArray, List.set_cons_zero, List.set_cons_succ]
      refine wpAnyH_take (i := 2) (v := ?_) rfl (by kernel_rfl) (by kernel_rfl) (by kernel_rfl) (fun _ _ _ h => h) (Or.inl ⟨by kernel_rfl, ?hy2⟩) (by assumption) ?_
      case hy2 => (intro wI hSw; (try dsimp only at hSw); have k0 := (hSw.cell hb).trans d0; have k1 := (hSw.cell hb).trans d1; have k2 := (hSw.cell hb).trans d2; have k3 := (hSw.cell hb).trans d3; go_simp; try with_reducible rfl)
      try simp only [Act.put, List.getElem_toArray, List.getElem_cons_zero, List.getElem_cons_succ, List.setIfInBounds_toArray, List.set_cons_zero, List.set_cons_succ]
      refine wpAnyH_take (i := 3) (v := ?_) rfl (by kernel_rfl) (by kernel_rfl) (by kernel_rfl) (fun _ _ _ h => h) (Or.inl ⟨by kernel_rfl, ?hy3⟩) (by assumption) ?_
      case hy3 => (intro wI hSw; (try dsimp only at hSw); have k0 := (hSw.cell hb).trans d0; have k1 := (hSw.cell hb).trans d1; have k2 := (hSw.cell hb).trans d2; have k3 := (hSw.cell hb).trans d3; go_simp; try with_reducible rfl)
      try simp only [Act.put, List.getElem_toArray, List.getElem_cons_zero, List.getElem_cons_succ, List.setIfInBounds_toArray, List.set_cons_zero, List.set_cons_succ]
      refine wpAnyH_take (i := 4) (v := ?_) rfl (by kernel_rfl) (by kernel_rfl) (by kernel_rfl) (fun _ _ _ h => h) (Or.inl ⟨by kernel_rfl, ?hy4⟩) (by assumption) ?_
      case hy4 => (intro wI hSw; (try dsimp only at hSw); have k0 := (hSw.cell hb).trans d0; have k1 := (hSw.cell hb).trans d1; have k2 := (hSw.cell hb).trans d2; have k3 := (hSw.cell hb).trans d3; go_simp; try with_reducible rfl)
      try simp only [Act.put, List.getElem_toArray, List.getElem_cons_zero, List.getElem_cons_succ, List.setIfInBounds_toArray, List.set_cons_zero, List.set_cons_succ]
      refine wpAnyH_take (i := 5) (v := ?_) rfl (by kernel_rfl) (by kernel_rfl) (by kernel_rfl) (fun _ _ _ h => h) (Or.inl ⟨by kernel_rfl, ?hy5⟩) (by assumption) ?_
      case hy5 => (intro wI hSw; (try dsimp only at hSw); have k0 := (hSw.cell hb).trans d0; have k1 := (hSw.cell hb).trans d1; have k2 := (hSw.cell hb).trans d2; have k3 := (hSw.cell hb).trans d3; go_simp; try with_reducible rfl)
      try simp only [Act.put, List.getElem_toArray, List.getElem_cons_zero, List.getElem_cons_succ, List.setIfInBounds_toArray, List.set_cons_zero, List.set_cons_succ]
      refine wpAnyH_take (i := 6) (v := ?_) rfl (by kernel_rfl) (by kernel_rfl) (by kernel_rfl) (fun _ _ _ h => h) (Or.inl ⟨by kernel_rfl, ?hy6⟩) (by assumption) ?_
      case hy6 => (intro wI hSw; (try dsimp only at hSw); have k0 := (hSw.cell hb).trans d0; have k1 := (hSw.cell hb).trans d1; have k2 := (hSw.cell hb).trans d2; have k3 := (hSw.cell hb).trans d3; go_simp; try with_reducible rfl)
      try simp only [Act.put, List.getElem_toArray, List.getElem_cons_zero, List.getElem_cons_succ, List.setIfInBounds_toArray, List.set_cons_zero, List.set_cons_succ]
      refine wpAnyH_take (i := 7) (v := ?_) rfl (by kernel_rfl) (by kernel_rfl) (by kernel_rfl) (fun _ _ _ h => h) (Or.inl ⟨by kernel_rfl, ?hy7⟩) (by assumption) ?_
      case hy7 => (intro wI hSw; (try dsimp only at hSw); have k0 := (hSw.cell hb).trans d0; have k1 := (hSw.cell hb).trans d1; have k2 := (hSw.cell hb).trans d2; have k3 := (hSw.cell hb).trans d3; go_simp; try with_reducible rfl)
      try simp only [Act.put, List.getElem_toArray, List.getElem_cons_zero, List.getElem_cons_succ, List.setIfInBounds_toArray, List.set_cons_zero, List.set_cons_succ]
      refine wpAnyH_take (i := 8) (v := ?_) rfl (by kernel_rfl) (by kernel_rfl) (by kernel_rfl) (fun _ _ _ h => h) (Or.inl ⟨by kernel_rfl, ?hy8⟩) (by assumption) ?_
      case hy8 => (intro wI hSw; (try dsimp only at hSw); have k0 := (hSw.cell hb).trans d0; have k1 := (hSw.cell hb).trans d1; have k2 := (hSw.cell hb).trans d2; have k3 := (hSw.cell hb).trans d3; go_simp; try with_reducible rfl)
      try simp only [Act.put, List.getElem_toArray, List.getElem_cons_zero, List.getElem_cons_succ, List.setIfInBounds_toArray, List.set_cons_zero, List.set_cons_succ]
      refine wpAnyH_take (i := 9) (v := ?_) rfl (by kernel_rfl) (by kernel_rfl) (by kernel_rfl) (fun _ _ _ h => h) (Or.inl ⟨by kernel_rfl, ?hy9⟩) (by assumption) ?_
      case hy9 => (intro wI hSw; (try dsimp only at hSw); have k0 := (hSw.cell hb).trans d0; have k1 := (hSw.cell hb).trans d1; have k2 := (hSw.cell hb).trans d2; have k3 := (hSw.cell hb).trans d3; go_simp; try with_reducible rfl)
      try simp only [Act.put, List.getElem_toArray, List.getElem_cons_zero, List.getElem_cons_succ, List.setIfInBounds_toArray, List.set_cons_zero, List.set_cons_succ]
      refine wpAnyH_take (i := 10) (v := ?_) rfl (by kernel_rfl) (by kernel_rfl) (by kernel_rfl) (fun _ _ _ h => h) (Or.inl ⟨by kernel_rfl, ?hy10⟩) (by assumption) ?_
      case hy10 => (intro wI hSw; (try dsimp only at hSw); have k0 := (hSw.cell hb).trans d0; have k1 := (hSw.cell hb).trans d1; have k2 := (hSw.cell hb).trans d2; have k3 := (hSw.cell hb).trans d3; go_simp; try with_reducible rfl)
      try simp only [Act.put, List.getElem_toArray, List.getElem_cons_zero, List.getElem_cons_succ, List.setIfInBounds_toArray, List.set_cons_zero, List.set_cons_succ]
      refine wpAnyH_take (i := 11) (v := ?_) rfl (by kernel_rfl) (by kernel_rfl) (by kernel_rfl) (fun _ _ _ h => h) (Or.inl ⟨by kernel_rfl, ?hy11⟩) (by assumption) ?_
      case hy11 => (intro wI hSw; (try dsimp only at hSw); have k0 := (hSw.cell hb).trans d0; have k1 := (hSw.cell hb).trans d1; have k2 := (hSw.cell hb).trans d2; have k3 := (hSw.cell hb).trans d3; go_simp; try with_reducible rfl)
      try simp only [Act.put, List.getElem_toArray, List.getElem_cons_zero, List.getElem_cons_succ, List.setIfInBounds_toArray, List.set_cons_zero, List.set_cons_succ]
      refine wpAnyH_take (i := 12) (v := ?_) rfl (by kernel_rfl) (by kernel_rfl) (by kernel_rfl) (fun _ _ _ h => h) (Or.inl ⟨by kernel_rfl, ?hy12⟩) (by assumption) ?_
      case hy12 => (intro wI hSw; (try dsimp only at hSw); have k0 := (hSw.cell hb).trans d0; have k1 := (hSw.cell hb).trans d1; have k2 := (hSw.cell hb).trans d2; have k3 := (hSw.cell hb).trans d3; go_simp; try with_reducible rfl)
      try simp only [Act.put, List.getElem_toArray, List.getElem_cons_zero, List.getElem_cons_succ, List.setIfInBounds_toArray, List.set_cons_zero, List.set_cons_succ]
      refine wpAnyH_take (i := 13) (v := ?_) rfl (by kernel_rfl) (by kernel_rfl) (by kernel_rfl) (fun _ _ _ h => h) (Or.inl ⟨by kernel_rfl, ?hy13⟩) (by assumption) ?_
      case hy13 => (intro wI hSw; (try dsimp only at hSw); have k0 := (hSw.cell hb).trans d0; have k1 := (hSw.cell hb).trans d1; have k2 := (hSw.cell hb).trans d2; have k3 := (hSw.cell hb).trans d3; go_simp; try with_reducible rfl)
      try simp only [Act.put, List.getElem_toArray, List.getElem_cons_zero, List.getElem_cons_succ, List.setIfInBounds_toArray, List.set_cons_zero, List.set_cons_succ]
      refine wpAnyH_take (i := 14) (v := ?_) rfl (by kernel_rfl) (by kernel_rfl) (by kernel_rfl) (fun _ _ _ h => h) (Or.inl ⟨by kernel_rfl, ?hy14⟩) (by assumption) ?_
      case hy14 => (intro wI hSw; (try dsimp only at hSw); have k0 := (hSw.cell hb).trans d0; have k1 := (hSw.cell hb).trans d1; have k2 := (hSw.cell hb).trans d2; have k3 := (hSw.cell hb).trans d3; go_simp; try with_reducible rfl)
      try simp only [Act.put, List.getElem_toArray, List.getElem_cons_zero, List.getElem_cons_succ, List.setIfInBounds_toArray, List.set_cons_zero, List.set_cons_succ]
      refine wpAnyH_take (i := 15) (v := ?_) rfl (by kernel_rfl) (by kernel_rfl) (by kernel_rfl) (fun _ _ _ h => h) (Or.inl ⟨by kernel_rfl, ?hy15⟩) (by assumption) ?_
      case hy15 => (intro wI hSw; (try dsimp only at hSw); have k0 := (hSw.cell hb).trans d0; have k1 := (hSw.cell hb).trans d1; have k2 := (hSw.cell hb).trans d2; have k3 := (hSw.cell hb).trans d3; go_simp; try with_reducible rfl)
      try simp only [Act.put, List.getElem_toArray, List.getElem_cons_zero, List.getElem_cons_succ, List.setIfInBounds_toArray, List.set_cons_zero, List.set_cons_succ]
      refine wpAnyH_take (i := 16) (v := ?_) rfl (by kernel_rfl) (by kernel_rfl) (by kernel_rfl) (fun _ _ _ h => h) (Or.inl ⟨by kernel_rfl, ?hy16⟩) (by assumption) ?_
      case hy16 => (intro wI hSw; (try dsimp only at hSw); have k0 := (hSw.cell hb).trans d0; have k1 := (hSw.cell hb).trans d1; have k2 := (hSw.cell hb).trans d2; have k3 := (hSw.cell hb).trans d3; go_simp; try with_reducible rfl)
      try simp only [Act.put, List.getElem_toArray, List.getElem_cons_zero, List.getElem_cons_succ, List.setIfInBounds_toArray, List.set_cons_zero, List.set_cons_succ]
      refine wpAnyH_take (i := 17) (v := ?_) rfl (by kernel_rfl) (by kernel_rfl) (by kernel_rfl) (fun _ _ _ h => h) (Or.inl ⟨by kernel_rfl, ?hy17⟩) (by assumption) ?_
      case hy17 => (intro wI hSw; (try dsimp only at hSw); have k0 := (hSw.cell hb).trans d0; have k1 := (hSw.cell hb).trans d1; have k2 := (hSw.cell hb).trans d2; have k3 := (hSw.cell hb).trans d3; go_simp; try with_reducible rfl)
      try simp only [Act.put, List.getElem_toArray, List.getElem_cons_zero, List.getElem_cons_succ, List.setIfInBounds_toArray, List.set_cons_zero, List.set_cons_succ]
      refine wpAnyH_take (i := 18) (v := ?_) rfl (by kernel_rfl) (by kernel_rfl) (by kernel_rfl) (fun _ _ _ h => h) (Or.inl ⟨by kernel_rfl, ?hy18⟩) (by assumption) ?_
      case hy18 => (intro wI hSw; (try dsimp only at hSw); have k0 := (hSw.cell hb).trans d0; have k1 := (hSw.cell hb).trans d1; have k2 := (hSw.cell hb).trans d2; have k3 := (hSw.cell hb).trans d3; go_simp; try with_reducible rfl)
      try simp only [Act.put, List.getElem_toArray, List.getElem_cons_zero, List.getElem_cons_succ, List.setIfInBounds_toArray, List.set_cons_zero, List.set_cons_succ]
      refine wpAnyH_take (i := 19) (v := ?_) rfl (by kernel_rfl) (by kernel_rfl) (by kernel_rfl) (fun _ _ _ h => h) (Or.inl ⟨by kernel_rfl, ?hy19⟩) (by assumption) ?_
      case hy19 => (intro wI hSw; (try dsimp only at hSw); have k0 := (hSw.cell hb).trans d0; have k1 := (hSw.cell hb).trans d1; have k2 := (hSw.cell hb).trans d2; have k3 := (hSw.cell hb).trans d3; go_simp; try with_reducible rfl)
      try simp only [Act.put, List.getElem_toArray, List.getElem_cons_zero, List.getElem_cons_succ, List.setIfInBounds_toArray, List.set_cons_zero, List.set_cons_succ]
      refine wpAnyH_take (i := 20) (v := ?_) rfl (by kernel_rfl) (by kernel_rfl) (by kernel_rfl) (fun _ _ _ h => h) (Or.inl ⟨by kernel_rfl, ?hy20⟩) (by assumption) ?_
      case hy20 => (intro wI hSw; (try dsimp only at hSw); have k0 := (hSw.cell hb).trans d0; have k1 := (hSw.cell hb).trans d1; have k2 := (hSw.cell hb).trans d2; have k3 := (hSw.cell hb).trans d3; go_simp; try with_reducible rfl)
      try simp only [Act.put, List.getElem_toArray, List.getElem_cons_zero, List.getElem_cons_succ, List.setIfInBounds_toArray, List.set_cons_zero, List.set_cons_succ]
      refine wpAnyH_ready (rs := [21]) (by kernel_rfl) (by simp) ?_
      refine AllReadyH.cons rfl (fun K hK => ?_) AllReadyH.nil
      go_simp
      go_wp2_with fail
      refine (words_any ga gn gc gl (HOK.out.px.on hHeld) (by omega)).mono ?_
      rintro e W21 ⟨a5, c5, rfl, hR5, hn5, hb5⟩
      refine hK.out _ _ (Below.on hHeld hb5) (fun _ => ?_)
      have HB0 := hid (Below.on HW.out hb5)
      have HR5 := hid hR5
      have HN5 : Hid (∀ y, a5 = some y → wr.heap.size ≤ y.block) := fun y hy => by have h1 := hn5 y hy; have h2 := HW.out.size; omega
      have hH5 := Below.on hHeld hb5
      clear hK K hHeld hb5 hR5 hn5
      have hHeld := hH5
      clear hH5
      try simp only [Act.put, List.getElem_toArray, List.getElem_cons_zero, List.getElem_cons_succ, List.setIfInBounds_toArray, List.set_cons_zero, List.set_cons_succ]
      refine wpAnyH_take (i := 22) (v := ?_) rfl (by kernel_rfl) (by kernel_rfl) (by kernel_rfl) (fun _ _ _ h => h) (Or.inl ⟨by kernel_rfl, ?hy22⟩) (by assumption) ?_
      case hy22 => (intro wI hSw; (try dsimp only at hSw); have k0 := (hSw.cell hb).trans d0; have k1 := (hSw.cell hb).trans d1; have k2 := (hSw.cell hb).trans d2; have k3 := (hSw.cell hb).trans d3; go_simp; try with_reducible rfl)
      try simp only [Act.put, List.getElem_toArray, List.getElem_cons_zero, List.getElem_cons_succ, List.setIfInBounds_toArray, List.set_cons_zero, List.set_cons_succ]
      refine wpAnyH_ready (rs := [23]) (by kernel_rfl) (by simp) ?_
      refine AllReadyH.cons rfl (fun K hK => ?_) AllReadyH.nil
      have hb1 := bel_new W21 (.cells #[.int .i64 g0, .int .i64 g1, .int .i64 g2, .slice a5 gn c5] 60)
      have hH2 := Below.on hHeld hb1
      have HS5 := hid (src_gv (P := Tryz.prog) (T := 60) Tryz.underlying26 W21 ⟨g0, g1, g2, a5, gn, c5, gl⟩)
      have HO5 := hid ((HO.out.on HB0.out).on hb1)
      have HX5 : Hid (GOk (W21.alloc (.cells #[.int .i64 g0, .int .i64 g1, .int .i64 g2, .slice a5 gn c5] 60)) ⟨g0, g1, g2, a5, gn, c5, gl⟩) := ⟨HOK.out.kb, HOK.out.kw, HOK.out.kh, HR5.out.on hb1⟩
      simp only [gvv] at HS5
      clear hb1
      go_simp
      refine hK.out _ _ hH2 (fun _ => ?_)
      clear hK K hHeld
      have hHeld := hH2
      clear hH2
      try simp only [Act.put, List.getElem_toArray, List.getElem_cons_zero, List.getElem_cons_succ, List.setIfInBounds_toArray, List.set_cons_zero, List.set_cons_succ]
      refine wpAnyH_ready (rs := [24]) (by kernel_rfl) (by simp) ?_
      refine AllReadyH.cons rfl (fun K hK => ?_) AllReadyH.nil
      refine step_appP _ (by kernel_rfl) (.tmp 24) (.tmp 47) 26 26 rfl w.heap.size 60 i0 (.agg #[.int .i64 0, .int .i64 0, .int .i64 0, .slice none 0 0]) 4 48 Tryz.underlying26 hi hi0 hi1 hi2 rfl _ _ _ (by simp [Act.eval]) HO5.out.own _ _ _ (by simp [Act.eval]) HS5.out (by simp only [maxLen]; have := HLJ.out; omega) (fits48' (by have := HLJ.out; omega)) HO5.out.bel.size ?_
      intro v6 W24 o6 g6 p6
      have HO6 := hid (HO5.out.more HX5.out (fun hn y hy e => by
  have h1 := HN5.out y hy
  have h2 := (HO.out.own.lt _ e).2
  omega) o6 g6 p6)
      clear o6 g6 p6 HO5 HS5 HX5 HB0 HR5 HN5
      refine hK.out _ _ HO6.out.bel (fun _ => ?_)
      clear hK K
      try simp only [Act.put, List.getElem_toArray, List.getElem_cons_zero, List.getElem_cons_succ, List.setIfInBounds_toArray, List.set_cons_zero, List.set_cons_succ]
      refine wpAnyH_take (i := 25) (v := ?_) rfl (by kernel_rfl) (by kernel_rfl) (by kernel_rfl) (fun _ _ _ h => h) (Or.inl ⟨by kernel_rfl, ?hy25⟩) (by assumption) ?_
      case hy25 => (intro wI hSw; (try dsimp only at hSw); have k0 := (hSw.cell hb).trans d0; have k1 := (hSw.cell hb).trans d1; have k2 := (hSw.cell hb).trans d2; have k3 := (hSw.cell hb).trans d3; go_simp; try with_reducible rfl)
      try simp only [Act.put, List.getElem_toArray, List.getElem_cons_zero, List.getElem_cons_succ, List.setIfInBounds_toArray, List.set_cons_zero, List.set_cons_succ]
      refine wpAnyH_done (by kernel_rfl) ?_ _
      go_wp2
      have hcl := HE.out
      refine ⟨⟨j + 1, hl ++ [⟨g0, g1, g2, a5, gn, c5, gl⟩], by go_num, by omega, by rw [List.length_append, HLJ.out]; rfl, HO6.out, ?_, ?_, ?_, fun _ => by omega⟩, by simp [numOf]; omega⟩
      · rw [gtake_one HG.out, List.map_append, List.map_append, HE.out]
        rfl
      · intro g hg
        rcases List.mem_append.1 hg with hg | hg
        · exact HB.out g hg
        · rw [List.mem_singleton.1 hg]
          show gn ≤ 400
          omega
      · intro g hg
        rw [gtake_one HG.out] at hg
        rcases List.mem_append.1 hg with hg | hg
        · exact HB2.out g hg
        · rw [List.mem_singleton.1 hg]
          show gn ≤ 400
          omega
    · have e1 : decide ((j : Int) < n) = false := decide_eq_false (by omega)
      obtain rfl : j = n := by omega
      have htk : gs.take j = gs := List.take_of_length_le (by rw [HL.out]; exact Nat.le_refl _)
      have h8 : j ≤ 8 := by
        rcases Nat.eq_zero_or_pos j with h0 | h0
        · omega
        · exact hj8 h0
      have HF := hid (HYES.out wr a1 c1 hl h8 (by rw [← htk]; exact HB2.out) HO.out (by rw [HE.out, htk]) HB.out)
      clear HNO HYES htk
      go_wp2
      exact HF.out
end Go.Proofs.YtlkodgmnhphfcaaGreatDoor

/- The contract of the program's All. -/
namespace Go.Proofs.YtlkodgmnhphfcaaGreatDoor
open Go Go.RowKit

variable {w w' : World} {p b W H : Nat} {L : List Int}

theorem take_snoc {α : Type} {l : List α} {k : Nat} {y : α} (h : l[k]? = some y) : l.take (k + 1) = l.take k ++ [y] := by
  obtain ⟨hk, rfl⟩ := List.getElem?_eq_some_iff.1 h
  exact List.take_succ_eq_append_getElem hk
theorem foldl_step {W : Nat} {l : List Rc} {I : List Im} {V : List (List Int)} {j : Nat} {y : List Int} (h : V[j]? = some y) (L : List Int) : (V.take (j + 1)).foldl (ptc W l I) L = ptc W l I ((V.take j).foldl (ptc W l I) L) y := by
  rw [take_snoc h, List.foldl_append]
  rfl
theorem ara_okk (hW : 1 ≤ W ∧ W ≤ 48) (hH : 1 ≤ H ∧ H ≤ 48) : (ara W H).Ok := (ara_ck hW hH).ok
theorem ptc_some {W : Nat} {l : List Rc} {gs : List Gv} {L y : List Int} {g : Gv} (h : gf (nm5 1 y) gs = some g) : ptc W l (gs.map gcl) L y = drw W (nm5 2 y) (nm5 3 y) g.w g.h g.l l L := by
  rw [ptc, gf_imf, h]
  rfl
theorem ptc_none {W : Nat} {l : List Rc} {gs : List Gv} {L y : List Int} (h : gf (nm5 1 y) gs = none) : ptc W l (gs.map gcl) L y = L := by
  rw [ptc, gf_imf, h]
  rfl

set_option maxRecDepth 100000 in
set_option maxHeartbeats 4000000 in
theorem pall_any (h : Cv 63 w p b W H L) (v : Int) (hv : Col v) (a : Option Addr) (n c : Nat) (V : List (List Int)) (hr : RdM 6 w a n c V) (hVi : ∀ y ∈ V, ∀ z ∈ y, I64 z) (hrb : 0 < n → ∀ x, a = some x → x.block ≠ b)
    (a' : Option Addr) (n' c' : Nat) (gs : List Gv) (hg : RdG w a' n' c' gs) (hga : GAp [b] a' n' gs) (hgn : ∀ g ∈ gs, g.n ≤ 400) :
    Calls Tryz.prog 10 #[.pointer (some ⟨p, 0, none⟩), .int .u32 v, .slice a n c, .slice a' n' c'] w fun e w' => e = .returned (.tuple #[]) ∧ Cv 63 w' p b W H (pnc W v [ara W H] V (gs.map gcl) L) ∧ Kp [b] w w' := by
  have hs := hr.small
  have hs' := hg.small
  have HL := hid hr.len
  have hlt := h.lt
  have HWH := hid (And.intro h.hW h.hH)
  have HC := hid h
  have HR := hid hr
  have HG := hid hg
  have HGA := hid hga
  have HVI := hid hVi
  have HGN := hid hgn
  have HRB := hid hrb
  have HNO : Hid (∀ (wr : World) M, Cv 63 wr p b W H M → ∀ i z, wr.cell? ⟨b, i, none⟩ ≠ some (.int .i64 z)) := fun wr M hC i z hz => hC.no64 hz
  have CS := hid (csize_any h)
  obtain ⟨P, hP⟩ : ∃ P, P = pnc W v [ara W H] V (gs.map gcl) L := ⟨_, rfl⟩
  have HP : Hid (P = V.foldl (ptc W [ara W H] (gs.map gcl)) (fll W v [ara W H] L)) := hP
  rw [← hP]
  clear h hr hg hga hVi hgn hP hrb
  go_enter Tryz.func10, Tryz.ntmps10
  go_wp2_with fail
  refine CS.out.mono ?_
  rintro e w1 ⟨rfl, hb1⟩
  have HB1 := hid hb1
  clear hb1 CS
  go_wp2_with fail
  have hb2 := bel_new w1 (.cells #[.int .i64 0, .int .i64 0, .int .i64 (W : Nat), .int .i64 (H : Nat)] 67)
  have HB2 := hid (Below.on HB1.out hb2)
  have HE2 : Hid (RdC (w1.alloc (.cells #[.int .i64 0, .int .i64 0, .int .i64 (W : Nat), .int .i64 (H : Nat)] 67)) (some ⟨w1.heap.size, 0, none⟩) 1 1 [ara W H]) := rdc_lit w1 (ara W H) (ara_okk HWH.out.1 HWH.out.2)
  have hE : b ≠ w1.heap.size := by have := HB1.out.size; omega
  refine (cfill_any (HC.out.on HB2.out) v hv _ 1 1 [ara W H] HE2.out (by omega)).mono ?_
  rintro e w3 ⟨rfl, hC3, hk3⟩
  have HC3 := hid hC3
  have HK3 := hid ((kp_of_below HB2.out [b]).trans hk3 (fun k hk _ => hk))
  have HE3 := hid (HE2.out.kept hk3 (HNO.out _ _ (HC.out.on HB2.out)))
  have HBW : Hid (w1.heap.size < w3.heap.size) := by
    have h1 := hk3.size
    rw [size_new] at h1
    have : w1.heap.size < w3.heap.size := by omega
    exact this
  clear hC3 hk3 hb2 HB2 HE2 HB1
  obtain ⟨q, hq⟩ : ∃ q, w1.heap.size = q := ⟨_, rfl⟩
  rw [hq] at HE3 hE HBW ⊢
  clear hq
  go_wp2
  go_loopw [30] (fun i wr => ∃ j : Nat, i = .int .i64 j ∧ j ≤ n ∧ Cv 63 wr p b W H ((V.take j).foldl (ptc W [ara W H] (gs.map gcl)) (fll W v [ara W H] L)) ∧ Kp [b] w wr ∧ RdC wr (some ⟨q, 0, none⟩) 1 1 [ara W H]) (fun i _ => n - (numOf i).toNat)
  case atStart => exact ⟨0, rfl, by omega, HC3.out, HK3.out, HE3.out⟩
  case round =>
    obtain ⟨j, rfl, hj, hC, hK, hE4⟩ := hrel
    have HC4 := hid hC
    have HK4 := hid hK
    have HE4 := hid hE4
    clear hC hK hE4 HC3 HK3 HE3
    obtain ⟨M, hM⟩ : ∃ M, M = (V.take j).foldl (ptc W [ara W H] (gs.map gcl)) (fll W v [ara W H] L) := ⟨_, rfl⟩
    rw [← hM] at HC4
    have HM := hid hM
    clear hM
    by_cases hgo : j < n
    · have e1 : decide ((j : Int) < n) = true := decide_eq_true (by omega)
      have e2 : (j : Int) < n := by omega
      obtain ⟨b1, o1, z0, z1, z2, z3, z4, z5, rfl, hb1, hy, d0, d1, d2, d3, d4, d5⟩ := (HR.out.kp HK4.out (fun x hx hn => by simpa using HRB.out hn x hx)).el6 hgo
      have HY := hid hy
      have hi2 : I64 z2 := HVI.out _ (List.mem_of_getElem? hy) z2 (by simp)
      have hi3 : I64 z3 := HVI.out _ (List.mem_of_getElem? hy) z3 (by simp)
      have hA := bel_new wr (.cells #[.int .i64 z0, .int .i64 z1, .int .i64 z2, .int .i64 z3, .int .i64 z4, .int .i64 z5] 65)
      have HA := hid hA
      have HV := hid (bk_new wr #[.int .i64 z0, .int .i64 z1, .int .i64 z2, .int .i64 z3, .int .i64 z4, .int .i64 z5] 65)
      have HG4 := hid ((HG.out.kp HK4.out HGA.out).on hA)
      have CF := hid (pfirst_any a' n' c' gs z1 _ HG4.out)
      have HST : Hid ((V.take (j + 1)).foldl (ptc W [ara W H] (gs.map gcl)) (fll W v [ara W H] L) = ptc W [ara W H] (gs.map gcl) M [z0, z1, z2, z3, z4, z5]) := by rw [Hid, foldl_step hy, ← HM.out]
      clear hA hy
      cases hgf : gf z1 gs with
      | none =>
        rw [hgf] at CF
        have HN : Hid ((V.take (j + 1)).foldl (ptc W [ara W H] (gs.map gcl)) (fll W v [ara W H] L) = M) := by rw [Hid, HST.out, ptc_none (show gf (nm5 1 [z0, z1, z2, z3, z4, z5]) gs = none from hgf)]
        rw [show fdv none = .tuple #[.agg #[.int .i64 0, .int .i64 0, .int .i64 0, .slice none 0 0], .bool false] from rfl] at CF
        clear hgf
        go_wp2_with fail
        refine CF.out.mono ?_
        rintro e w5 ⟨rfl, hb5⟩
        have hB5 := Below.on (Below.on HA.out hb5) (bel_new w5 (.cells #[.int .i64 0, .int .i64 0, .int .i64 0, .slice none 0 0] 60))
        have HC5 := hid (HC4.out.on hB5)
        have HK5 := hid (HK4.out.trans (kp_of_below hB5 []) (by simp))
        have HE5 := hid (HE4.out.on hB5)
        rw [← HN.out] at HC5
        clear hb5 hB5 HC4 HK4 HE4
        go_wp2
        go_roundw
        case rel => exact ⟨j + 1, by go_num, by omega, HC5.out, HK5.out, HE5.out⟩
        case measure => simp [numOf]; omega
      | some g =>
        rw [hgf] at CF
        have hgm := gf_mem hgf
        have hgl := HGN.out g hgm
        have HN : Hid ((V.take (j + 1)).foldl (ptc W [ara W H] (gs.map gcl)) (fll W v [ara W H] L) = drw W z2 z3 g.w g.h g.l [ara W H] M) := by
          rw [Hid, HST.out, ptc_some (show gf (nm5 1 [z0, z1, z2, z3, z4, z5]) gs = some g from hgf)]
          rfl
        have HGO := hid (HG4.out.ok g hgm)
        have hgap := HGA.out.px g hgm
        obtain ⟨g0, g1, g2, ga, gn, gc, gl⟩ := g
        dsimp only at hgl HN hgap
        rw [show fdv (some ⟨g0, g1, g2, ga, gn, gc, gl⟩) = .tuple #[.agg #[.int .i64 g0, .int .i64 g1, .int .i64 g2, .slice ga gn gc], .bool true] from rfl] at CF
        clear hgf hgm
        go_wp2_with fail
        refine CF.out.mono ?_
        rintro e w5 ⟨rfl, hb5⟩
        have hX := bel_new w5 (.cells #[.int .i64 g0, .int .i64 g1, .int .i64 g2, .slice ga gn gc] 60)
        have hI := bk_new w5 #[.int .i64 g0, .int .i64 g1, .int .i64 g2, .slice ga gn gc] 60
        have hB5 := Below.on (Below.on HA.out hb5) hX
        have hV5 := (HV.out.on hb5).on hX
        have HC5 := hid (HC4.out.on hB5)
        have HK5 := hid (HK4.out.trans (kp_of_below hB5 []) (by simp))
        have HE5 := hid (HE4.out.on hB5)
        have hp5 := (HGO.out.px.on hb5).on hX
        have q2 := hV5.cell 2
        have q3 := hV5.cell 3
        have i1 := hI.cell 1
        have i2 := hI.cell 2
        have i3 := hI.cell 3
        have CD := hid (cdraw_any HC5.out z2 z3 g1 g2 hi2 hi3 HGO.out.kw HGO.out.kh ga gn gc gl hp5 hgl (fun hn x hx => by simpa using hgap hn x hx) (some ⟨q, 0, none⟩) 1 1 [ara W H] HE5.out (by omega))
        rw [← HN.out] at CD
        clear hb5 hX hI hB5 hV5 hp5 hgap HC4 HK4 HE4 HST HN HV HA CF
        go_wp2_with fail
        refine CD.out.mono ?_
        rintro e w6 ⟨rfl, hC6, hk6⟩
        have HC6 := hid hC6
        have HK6 := hid (HK5.out.trans hk6 (fun k hk _ => hk))
        have HE6 := hid (HE5.out.kept hk6 (HNO.out _ _ HC5.out))
        clear hC6 hk6 HC5 HK5 HE5 CD
        go_wp2
        go_roundw
        case rel => exact ⟨j + 1, by go_num, by omega, HC6.out, HK6.out, HE6.out⟩
        case measure => simp [numOf]; omega
    · have e1 : decide ((j : Int) < n) = false := decide_eq_false (by omega)
      have HF : Hid (M = P) := by
        rw [Hid, HP.out, HM.out, List.take_of_length_le (by rw [HL.out]; omega)]
      rw [HF.out] at HC4
      go_wp2
      go_end0
      exact ⟨rfl, HC4.out, HK4.out⟩
end Go.Proofs.YtlkodgmnhphfcaaGreatDoor

/- The document's Find, Everywhere, Part. Written by paint/mk_pte.py. -/
namespace Go.Proofs.YtlkodgmnhphfcaaGreatDoor
open Go Go.RowKit

theorem info_rim : (Tryz.prog.info? 57).map (·.size) = some 4 := by kernel_rfl
set_option maxRecDepth 100000 in
set_option maxHeartbeats 1000000 in
theorem rpfind_any (a : Option Addr) (n c : Nat) (gs : List Gv) (k : Int) (w : World) (h : RdG w a n c gs) :
    Calls Tryz.prog 31 #[.slice a n c, .int .i64 k] w fun e w' => e = .returned (fdv (gf k gs)) ∧ Below w.heap.size w w' := by
  have HL := hid h.len
  have hs := h.small
  have hb0 := bel_new w (.cells #[.int .i64 0, .int .i64 0, .int .i64 0, .slice none 0 0] 57)
  have H := hid (h.on hb0)
  have HB := hid hb0
  have HK := hid (bk_new w #[.int .i64 0, .int .i64 0, .int .i64 0, .slice none 0 0] 57)
  have HSZ : Hid ((w.alloc (.cells #[.int .i64 0, .int .i64 0, .int .i64 0, .slice none 0 0] 57)).heap.size = w.heap.size + 1) := size_new _ _
  clear h hb0
  go_enter Tryz.func31, Tryz.ntmps31
  go_wp2
  go_loopw [6] (fun i wr => ∃ j : Nat, i = .int .i64 j ∧ j ≤ n ∧ (∀ (i : Nat) (x : Gv), i < j → gs[i]? = some x → x.b ≠ k) ∧ RowKit.Below w.heap.size w wr ∧ Bk wr w.heap.size 57 #[.int .i64 0, .int .i64 0, .int .i64 0, .slice none 0 0] ∧ RdG wr a n c gs) (fun i _ => n - (numOf i).toNat)
  case atStart => exact ⟨0, rfl, by omega, fun k r hk => absurd hk (by omega), HB.out, HK.out, H.out⟩
  case round =>
    obtain ⟨j, rfl, hj, hN, hb, hk, hg⟩ := hrel
    have HN := hid hN
    have HB1 := hid hb
    have HK1 := hid hk
    have HG1 := hid hg
    have f0 := hk.fz
    have c0 := hk.cell 0
    have c1 := hk.cell 1
    have c2 := hk.cell 2
    have c3 := hk.cell 3
    clear hN hb hk H HB HK HSZ
    have HBF : Hid (∀ v0 v1 v2 v3, RowKit.Below w.heap.size w ((((wr.setCell ⟨w.heap.size, 0, none⟩ v0).setCell ⟨w.heap.size, 1, none⟩ v1).setCell ⟨w.heap.size, 2, none⟩ v2).setCell ⟨w.heap.size, 3, none⟩ v3)) := fun v0 v1 v2 v3 => (((HB1.out.setCell (p := ⟨w.heap.size, 0, none⟩) (Nat.le_refl _) _).setCell (p := ⟨w.heap.size, 1, none⟩) (Nat.le_refl _) _).setCell (p := ⟨w.heap.size, 2, none⟩) (Nat.le_refl _) _).setCell (p := ⟨w.heap.size, 3, none⟩) (Nat.le_refl _) _
    by_cases hgo : j < n
    · have e1 : decide ((j : Int) < n) = true := decide_eq_true (by omega)
      have e3 : (j : Int) < n := by omega
      obtain ⟨b, off, g, rfl, hlb, hr, _, d0, d1, d2, d3⟩ := hg.el hgo
      obtain ⟨g0, g1, g2, ga, gn, gc, gl⟩ := g
      dsimp only at d0 d1 d2 d3
      have HR := hid hr
      clear hr hg
      cases hq : (g0 == k)
      · have HN2 : Hid (∀ (i : Nat) (x : Gv), i < j + 1 → gs[i]? = some x → x.b ≠ k) := fun i x hi hx => by
          rcases Nat.lt_or_ge i j with h | h
          · exact HN.out i x h hx
          · obtain rfl : i = j := by omega
            rw [HR.out] at hx
            cases hx
            show g0 ≠ k
            simpa using hq
        go_wp2
        go_roundw
        case rel => exact ⟨j + 1, by go_num, by omega, HN2.out, HB1.out, HK1.out, HG1.out⟩
        case measure => simp [numOf]; omega
      · have HF : Hid (fdv (gf k gs) = .tuple #[.agg #[.int .i64 g0, .int .i64 g1, .int .i64 g2, .slice ga gn gc], .bool true]) := by
          rw [Hid, gf_at HN.out HR.out (show g0 = k by simpa using hq)]
          rfl
        go_wp2
        refine bodyPost_ret (results_cell_tmp' rfl _ _ w.heap.size _ _ _ _ rfl ((((HK1.out.set 0 _).set 1 _).set 2 _).set 3 _).obj Tryz.underlying57 rfl info_rim) rfl ?_
        rw [HF.out]
        exact ⟨rfl, HBF.out _ _ _ _⟩
    · have e1 : decide ((j : Int) < n) = false := decide_eq_false (by omega)
      have HF : Hid (fdv (gf k gs) = .tuple #[.agg #[.int .i64 0, .int .i64 0, .int .i64 0, .slice none 0 0], .bool false]) := by
        rw [Hid, gf_none fun i x hx => HN.out i x (by
          have := (List.getElem?_eq_some_iff.1 hx).1
          have := HL.out
          omega) hx]
        rfl
      clear hg
      go_wp2
      refine bodyPost_ret (results_cell_tmp' rfl _ _ w.heap.size _ _ _ _ rfl ((((HK1.out.set 0 _).set 1 _).set 2 _).set 3 _).obj Tryz.underlying57 rfl info_rim) rfl ?_
      rw [HF.out]
      exact ⟨rfl, HBF.out _ _ _ _⟩

theorem reverywhere_any (w : World) : Calls Tryz.prog 12 #[] w fun e w' => (∃ a, e = .returned (.slice (some ⟨a, 0, none⟩) 1 1) ∧ w.heap.size ≤ a ∧ RdC w' (some ⟨a, 0, none⟩) 1 1 [evr]) ∧ Below w.heap.size w w' := by
  go_enter Tryz.func12, Tryz.ntmps12
  go_wp2
  go_ret
  exact ⟨⟨_, rfl, Nat.le_refl _, rdc_lit w evr evr_ok⟩, bel_new w _⟩

variable {w w' : World} {p b W H : Nat} {L : List Int}

set_option maxRecDepth 100000 in
set_option maxHeartbeats 4000000 in
theorem rpart_any (h : Cv 46 w p b W H L) (v : Int) (hv : Col v) (a : Option Addr) (n c : Nat) (V : List (List Int)) (hr : RdM 6 w a n c V) (hVi : ∀ y ∈ V, ∀ z ∈ y, I64 z) (hrb : 0 < n → ∀ x, a = some x → x.block ≠ b)
    (a' : Option Addr) (n' c' : Nat) (gs : List Gv) (hg : RdG w a' n' c' gs) (hga : GAp [b] a' n' gs) (hgn : ∀ g ∈ gs, g.n ≤ 400) (al : Option Addr) (nl cl : Nat) (l : List Rc) (hl : RdC w al nl cl l) :
    Calls Tryz.prog 11 #[.pointer (some ⟨p, 0, none⟩), .int .u32 v, .slice a n c, .slice a' n' c', .slice al nl cl] w fun e w' => e = .returned (.tuple #[]) ∧ Cv 46 w' p b W H (pnc W v l V (gs.map gcl) L) ∧ Kp [b] w w' := by
  have hs := hr.small
  have hs' := hg.small
  have HL := hid hr.len
  have hlt := h.lt
  have HR := hid hr
  have HG := hid hg
  have HGA := hid hga
  have HVI := hid hVi
  have HGN := hid hgn
  have HRB := hid hrb
  have HNO : Hid (∀ (wr : World) M, Cv 46 wr p b W H M → ∀ i z, wr.cell? ⟨b, i, none⟩ ≠ some (.int .i64 z)) := fun wr M hC i z hz => hC.no64 hz
  have CFl := hid (rfill_any h v hv al nl cl l hl)
  have HCW := hid h
  have HE := hid hl
  obtain ⟨P, hP⟩ : ∃ P, P = pnc W v l V (gs.map gcl) L := ⟨_, rfl⟩
  have HP : Hid (P = V.foldl (ptc W l (gs.map gcl)) (fll W v l L)) := hP
  rw [← hP]
  clear h hr hg hga hVi hgn hP hrb hl
  go_enter Tryz.func11, Tryz.ntmps11
  go_wp2_with fail
  refine CFl.out.mono ?_
  rintro e w3 ⟨rfl, hC3, hk3⟩
  have HC3 := hid hC3
  have HK3 := hid hk3
  have HE3 := hid (HE.out.kept hk3 (HNO.out _ _ HCW.out))
  clear hC3 hk3 HE CFl HCW
  go_wp2
  go_loopw [10] (fun i wr => ∃ j : Nat, i = .int .i64 j ∧ j ≤ n ∧ Cv 46 wr p b W H ((V.take j).foldl (ptc W l (gs.map gcl)) (fll W v l L)) ∧ Kp [b] w wr ∧ RdC wr al nl cl l) (fun i _ => n - (numOf i).toNat)
  case atStart => exact ⟨0, rfl, by omega, HC3.out, HK3.out, HE3.out⟩
  case round =>
    obtain ⟨j, rfl, hj, hC, hK, hE4⟩ := hrel
    have HC4 := hid hC
    have HK4 := hid hK
    have HE4 := hid hE4
    clear hC hK hE4 HC3 HK3 HE3
    obtain ⟨M, hM⟩ : ∃ M, M = (V.take j).foldl (ptc W l (gs.map gcl)) (fll W v l L) := ⟨_, rfl⟩
    rw [← hM] at HC4
    have HM := hid hM
    clear hM
    by_cases hgo : j < n
    · have e1 : decide ((j : Int) < n) = true := decide_eq_true (by omega)
      have e2 : (j : Int) < n := by omega
      have HR4 := hid (HR.out.kp HK4.out (fun x hx hn => by simpa using HRB.out hn x hx))
      obtain ⟨b1, o1, z0, z1, z2, z3, z4, z5, rfl, hb1, hy, d0, d1, d2, d3, d4, d5⟩ := HR4.out.el6 hgo
      have HY := hid hy
      have hi2 : I64 z2 := HVI.out _ (List.mem_of_getElem? hy) z2 (by simp)
      have hi3 : I64 z3 := HVI.out _ (List.mem_of_getElem? hy) z3 (by simp)
      have HG4 := hid (HG.out.kp HK4.out HGA.out)
      have CF := hid (rpfind_any a' n' c' gs z1 _ HG4.out)
      have HST : Hid ((V.take (j + 1)).foldl (ptc W l (gs.map gcl)) (fll W v l L) = ptc W l (gs.map gcl) M [z0, z1, z2, z3, z4, z5]) := by rw [Hid, foldl_step hy, ← HM.out]
      clear hy
      cases hgf : gf z1 gs with
      | none =>
        rw [hgf] at CF
        have HN : Hid ((V.take (j + 1)).foldl (ptc W l (gs.map gcl)) (fll W v l L) = M) := by rw [Hid, HST.out, ptc_none (show gf (nm5 1 [z0, z1, z2, z3, z4, z5]) gs = none from hgf)]
        rw [show fdv none = .tuple #[.agg #[.int .i64 0, .int .i64 0, .int .i64 0, .slice none 0 0], .bool false] from rfl] at CF
        clear hgf
        go_wp2_with fail
        refine CF.out.mono ?_
        rintro e w5 ⟨rfl, hb5⟩
        have hB5 := Below.on hb5 (bel_new w5 (.cells #[.int .i64 0, .int .i64 0, .int .i64 0, .slice none 0 0] 57))
        have HC5 := hid (HC4.out.on hB5)
        have HK5 := hid (HK4.out.trans (kp_of_below hB5 []) (by simp))
        have HE5 := hid (HE4.out.on hB5)
        rw [← HN.out] at HC5
        clear hb5 hB5 HC4 HK4 HE4
        go_wp2
        go_roundw
        case rel => exact ⟨j + 1, by go_num, by omega, HC5.out, HK5.out, HE5.out⟩
        case measure => simp [numOf]; omega
      | some g =>
        rw [hgf] at CF
        have hgm := gf_mem hgf
        have hgl := HGN.out g hgm
        have HN : Hid ((V.take (j + 1)).foldl (ptc W l (gs.map gcl)) (fll W v l L) = drw W z2 z3 g.w g.h g.l l M) := by
          rw [Hid, HST.out, ptc_some (show gf (nm5 1 [z0, z1, z2, z3, z4, z5]) gs = some g from hgf)]
          rfl
        have HGO := hid (HG4.out.ok g hgm)
        have HGP := hid (HGA.out.px g hgm)
        obtain ⟨g0, g1, g2, ga, gn, gc, gl⟩ := g
        dsimp only at hgl HN HGP
        rw [show fdv (some ⟨g0, g1, g2, ga, gn, gc, gl⟩) = .tuple #[.agg #[.int .i64 g0, .int .i64 g1, .int .i64 g2, .slice ga gn gc], .bool true] from rfl] at CF
        clear hgf hgm
        go_wp2_with fail
        refine CF.out.mono ?_
        rintro e w5 ⟨rfl, hb5⟩
        have hX := bel_new w5 (.cells #[.int .i64 g0, .int .i64 g1, .int .i64 g2, .slice ga gn gc] 57)
        have hI := bk_new w5 #[.int .i64 g0, .int .i64 g1, .int .i64 g2, .slice ga gn gc] 57
        have HI := hid hI
        have hB5 := Below.on hb5 hX
        have HB5 := hid hB5
        have HC5 := hid (HC4.out.on hB5)
        have HK5 := hid (HK4.out.trans (kp_of_below hB5 []) (by simp))
        have HE5 := hid (HE4.out.on hB5)
        have HP5 := hid ((HGO.out.px.on hb5).on hX)
        have x2 := (hB5.cell hb1).trans d2
        have x3 := (hB5.cell hb1).trans d3
        have HX2 := hid x2
        have HX3 := hid x3
        have hlb5 : b1 < (w5.alloc (.cells #[.int .i64 g0, .int .i64 g1, .int .i64 g2, .slice ga gn gc] 57)).heap.size := Nat.lt_of_lt_of_le hb1 hB5.size
        have hli5 := hI.lt
        clear hb5 hX hI hB5 HC4 HK4 HE4 HST CF x2 x3 d0 d1 d2 d3 d4 d5
        go_wp2
        obtain ⟨U, hU⟩ : ∃ U, Hid (U = w5.alloc (.cells #[.int .i64 g0, .int .i64 g1, .int .i64 g2, .slice ga gn gc] 57)) := ⟨_, rfl⟩
        rw [← hU.out] at HI HB5 HC5 HK5 HE5 HP5 HX2 HX3 hlb5 hli5
        rw [← hU.out]
        clear hU
        refine wp_region_gate_drew (g := 18) (S := fun x => RowKit.Below U.heap.size U x) (by kernel_rfl) ?hh (fun hHeld => ?_)
        case hh => exact ((Below.refl _ _).drew)
        generalize World.drew _ = W0 at hHeld ⊢
        try dsimp only at hHeld
        refine wpAnyG_take (i := 0) (v := ?_) rfl (by kernel_rfl) (by kernel_rfl) (by kernel_rfl) (by kernel_rfl) (fun _ _ _ h => h) (Or.inl ⟨by kernel_rfl, ?hy0⟩) (by assumption) ?_
        case hy0 => (intro wI hSw; (try dsimp only at hSw); have k2 := (hSw.cell hlb5).trans HX2.out; have k3 := (hSw.cell hlb5).trans HX3.out; have hI := HI.out.on hSw; have i1 := hI.cell 1; have i2 := hI.cell 2; have i3 := hI.cell 3; go_simp; try with_reducible rfl)
        try simp only [Act.put, List.getElem_toArray, List.getElem_cons_zero, List.setIfInBounds_toArray, List.set_cons_zero, List.set_cons_succ]
        refine wpAnyG_take (i := 1) (v := ?_) rfl (by kernel_rfl) (by kernel_rfl) (by kernel_rfl) (by kernel_rfl) (fun _ _ _ h => h) (Or.inl ⟨by kernel_rfl, ?hy1⟩) (by assumption) ?_
        case hy1 => (intro wI hSw; (try dsimp only at hSw); have k2 := (hSw.cell hlb5).trans HX2.out; have k3 := (hSw.cell hlb5).trans HX3.out; have hI := HI.out.on hSw; have i1 := hI.cell 1; have i2 := hI.cell 2; have i3 := hI.cell 3; go_simp; try with_reducible rfl)
        try simp only [Act.put, List.getElem_toArray, List.getElem_cons_zero, List.getElem_cons_succ, List.setIfInBounds_toArray, List.set_cons_zero, List.set_cons_succ]
        refine wpAnyG_take (i := 2) (v := ?_) rfl (by kernel_rfl) (by kernel_rfl) (by kernel_rfl) (by kernel_rfl) (fun _ _ _ h => h) (Or.inl ⟨by kernel_rfl, ?hy2⟩) (by assumption) ?_
        case hy2 => (intro wI hSw; (try dsimp only at hSw); have k2 := (hSw.cell hlb5).trans HX2.out; have k3 := (hSw.cell hlb5).trans HX3.out; have hI := HI.out.on hSw; have i1 := hI.cell 1; have i2 := hI.cell 2; have i3 := hI.cell 3; go_simp; try with_reducible rfl)
        try simp only [Act.put, List.getElem_toArray, List.getElem_cons_zero, List.getElem_cons_succ, List.setIfInBounds_toArray, List.set_cons_zero, List.set_cons_succ]
        refine wpAnyG_take (i := 3) (v := ?_) rfl (by kernel_rfl) (by kernel_rfl) (by kernel_rfl) (by kernel_rfl) (fun _ _ _ h => h) (Or.inl ⟨by kernel_rfl, ?hy3⟩) (by assumption) ?_
        case hy3 => (intro wI hSw; (try dsimp only at hSw); have k2 := (hSw.cell hlb5).trans HX2.out; have k3 := (hSw.cell hlb5).trans HX3.out; have hI := HI.out.on hSw; have i1 := hI.cell 1; have i2 := hI.cell 2; have i3 := hI.cell 3; go_simp; try with_reducible rfl)
        try simp only [Act.put, List.getElem_toArray, List.getElem_cons_zero, List.getElem_cons_succ, List.setIfInBounds_toArray, List.set_cons_zero, List.set_cons_succ]
        refine wpAnyG_take (i := 4) (v := ?_) rfl (by kernel_rfl) (by kernel_rfl) (by kernel_rfl) (by kernel_rfl) (fun _ _ _ h => h) (Or.inl ⟨by kernel_rfl, ?hy4⟩) (by assumption) ?_
        case hy4 => (intro wI hSw; (try dsimp only at hSw); have k2 := (hSw.cell hlb5).trans HX2.out; have k3 := (hSw.cell hlb5).trans HX3.out; have hI := HI.out.on hSw; have i1 := hI.cell 1; have i2 := hI.cell 2; have i3 := hI.cell 3; go_simp; try with_reducible rfl)
        try simp only [Act.put, List.getElem_toArray, List.getElem_cons_zero, List.getElem_cons_succ, List.setIfInBounds_toArray, List.set_cons_zero, List.set_cons_succ]
        refine wpAnyG_take (i := 5) (v := ?_) rfl (by kernel_rfl) (by kernel_rfl) (by kernel_rfl) (by kernel_rfl) (fun _ _ _ h => h) (Or.inl ⟨by kernel_rfl, ?hy5⟩) (by assumption) ?_
        case hy5 => (intro wI hSw; (try dsimp only at hSw); have k2 := (hSw.cell hlb5).trans HX2.out; have k3 := (hSw.cell hlb5).trans HX3.out; have hI := HI.out.on hSw; have i1 := hI.cell 1; have i2 := hI.cell 2; have i3 := hI.cell 3; go_simp; try with_reducible rfl)
        try simp only [Act.put, List.getElem_toArray, List.getElem_cons_zero, List.getElem_cons_succ, List.setIfInBounds_toArray, List.set_cons_zero, List.set_cons_succ]
        refine wpAnyG_take (i := 6) (v := ?_) rfl (by kernel_rfl) (by kernel_rfl) (by kernel_rfl) (by kernel_rfl) (fun _ _ _ h => h) (Or.inl ⟨by kernel_rfl, ?hy6⟩) (by assumption) ?_
        case hy6 => (intro wI hSw; (try dsimp only at hSw); have k2 := (hSw.cell hlb5).trans HX2.out; have k3 := (hSw.cell hlb5).trans HX3.out; have hI := HI.out.on hSw; have i1 := hI.cell 1; have i2 := hI.cell 2; have i3 := hI.cell 3; go_simp; try with_reducible rfl)
        try simp only [Act.put, List.getElem_toArray, List.getElem_cons_zero, List.getElem_cons_succ, List.setIfInBounds_toArray, List.set_cons_zero, List.set_cons_succ]
        refine wpAnyG_take (i := 7) (v := ?_) rfl (by kernel_rfl) (by kernel_rfl) (by kernel_rfl) (by kernel_rfl) (fun _ _ _ h => h) (Or.inl ⟨by kernel_rfl, ?hy7⟩) (by assumption) ?_
        case hy7 => (intro wI hSw; (try dsimp only at hSw); have k2 := (hSw.cell hlb5).trans HX2.out; have k3 := (hSw.cell hlb5).trans HX3.out; have hI := HI.out.on hSw; have i1 := hI.cell 1; have i2 := hI.cell 2; have i3 := hI.cell 3; go_simp; try with_reducible rfl)
        try simp only [Act.put, List.getElem_toArray, List.getElem_cons_zero, List.getElem_cons_succ, List.setIfInBounds_toArray, List.set_cons_zero, List.set_cons_succ]
        refine wpAnyG_take (i := 8) (v := ?_) rfl (by kernel_rfl) (by kernel_rfl) (by kernel_rfl) (by kernel_rfl) (fun _ _ _ h => h) (Or.inl ⟨by kernel_rfl, ?hy8⟩) (by assumption) ?_
        case hy8 => (intro wI hSw; (try dsimp only at hSw); have k2 := (hSw.cell hlb5).trans HX2.out; have k3 := (hSw.cell hlb5).trans HX3.out; have hI := HI.out.on hSw; have i1 := hI.cell 1; have i2 := hI.cell 2; have i3 := hI.cell 3; go_simp; try with_reducible rfl)
        try simp only [Act.put, List.getElem_toArray, List.getElem_cons_zero, List.getElem_cons_succ, List.setIfInBounds_toArray, List.set_cons_zero, List.set_cons_succ]
        refine wpAnyG_take (i := 9) (v := ?_) rfl (by kernel_rfl) (by kernel_rfl) (by kernel_rfl) (by kernel_rfl) (fun _ _ _ h => h) (Or.inl ⟨by kernel_rfl, ?hy9⟩) (by assumption) ?_
        case hy9 => (intro wI hSw; (try dsimp only at hSw); have k2 := (hSw.cell hlb5).trans HX2.out; have k3 := (hSw.cell hlb5).trans HX3.out; have hI := HI.out.on hSw; have i1 := hI.cell 1; have i2 := hI.cell 2; have i3 := hI.cell 3; go_simp; try with_reducible rfl)
        try simp only [Act.put, List.getElem_toArray, List.getElem_cons_zero, List.getElem_cons_succ, List.setIfInBounds_toArray, List.set_cons_zero, List.set_cons_succ]
        refine wpAnyG_take (i := 10) (v := ?_) rfl (by kernel_rfl) (by kernel_rfl) (by kernel_rfl) (by kernel_rfl) (fun _ _ _ h => h) (Or.inl ⟨by kernel_rfl, ?hy10⟩) (by assumption) ?_
        case hy10 => (intro wI hSw; (try dsimp only at hSw); have k2 := (hSw.cell hlb5).trans HX2.out; have k3 := (hSw.cell hlb5).trans HX3.out; have hI := HI.out.on hSw; have i1 := hI.cell 1; have i2 := hI.cell 2; have i3 := hI.cell 3; go_simp; try with_reducible rfl)
        try simp only [Act.put, List.getElem_toArray, List.getElem_cons_zero, List.getElem_cons_succ, List.setIfInBounds_toArray, List.set_cons_zero, List.set_cons_succ]
        refine wpAnyG_take (i := 11) (v := ?_) rfl (by kernel_rfl) (by kernel_rfl) (by kernel_rfl) (by kernel_rfl) (fun _ _ _ h => h) (Or.inl ⟨by kernel_rfl, ?hy11⟩) (by assumption) ?_
        case hy11 => (intro wI hSw; (try dsimp only at hSw); have k2 := (hSw.cell hlb5).trans HX2.out; have k3 := (hSw.cell hlb5).trans HX3.out; have hI := HI.out.on hSw; have i1 := hI.cell 1; have i2 := hI.cell 2; have i3 := hI.cell 3; go_simp; try with_reducible rfl)
        try simp only [Act.put, List.getElem_toArray, List.getElem_cons_zero, List.getElem_cons_succ, List.setIfInBounds_toArray, List.set_cons_zero, List.set_cons_succ]
        refine wpAnyG_take (i := 12) (v := ?_) rfl (by kernel_rfl) (by kernel_rfl) (by kernel_rfl) (by kernel_rfl) (fun _ _ _ h => h) (Or.inl ⟨by kernel_rfl, ?hy12⟩) (by assumption) ?_
        case hy12 => (intro wI hSw; (try dsimp only at hSw); have k2 := (hSw.cell hlb5).trans HX2.out; have k3 := (hSw.cell hlb5).trans HX3.out; have hI := HI.out.on hSw; have i1 := hI.cell 1; have i2 := hI.cell 2; have i3 := hI.cell 3; go_simp; try with_reducible rfl)
        try simp only [Act.put, List.getElem_toArray, List.getElem_cons_zero, List.getElem_cons_succ, List.setIfInBounds_toArray, List.set_cons_zero, List.set_cons_succ]
        refine wpAnyG_take (i := 13) (v := ?_) rfl (by kernel_rfl) (by kernel_rfl) (by kernel_rfl) (by kernel_rfl) (fun _ _ _ h => h) (Or.inl ⟨by kernel_rfl, ?hy13⟩) (by assumption) ?_
        case hy13 => (intro wI hSw; (try dsimp only at hSw); have k2 := (hSw.cell hlb5).trans HX2.out; have k3 := (hSw.cell hlb5).trans HX3.out; have hI := HI.out.on hSw; have i1 := hI.cell 1; have i2 := hI.cell 2; have i3 := hI.cell 3; go_simp; try with_reducible rfl)
        try simp only [Act.put, List.getElem_toArray, List.getElem_cons_zero, List.getElem_cons_succ, List.setIfInBounds_toArray, List.set_cons_zero, List.set_cons_succ]
        refine wpAnyG_take (i := 14) (v := ?_) rfl (by kernel_rfl) (by kernel_rfl) (by kernel_rfl) (by kernel_rfl) (fun _ _ _ h => h) (Or.inl ⟨by kernel_rfl, ?hy14⟩) (by assumption) ?_
        case hy14 => (intro wI hSw; (try dsimp only at hSw); have k2 := (hSw.cell hlb5).trans HX2.out; have k3 := (hSw.cell hlb5).trans HX3.out; have hI := HI.out.on hSw; have i1 := hI.cell 1; have i2 := hI.cell 2; have i3 := hI.cell 3; go_simp; try with_reducible rfl)
        try simp only [Act.put, List.getElem_toArray, List.getElem_cons_zero, List.getElem_cons_succ, List.setIfInBounds_toArray, List.set_cons_zero, List.set_cons_succ]
        refine wpAnyG_take (i := 15) (v := ?_) rfl (by kernel_rfl) (by kernel_rfl) (by kernel_rfl) (by kernel_rfl) (fun _ _ _ h => h) (Or.inl ⟨by kernel_rfl, ?hy15⟩) (by assumption) ?_
        case hy15 => (intro wI hSw; (try dsimp only at hSw); have k2 := (hSw.cell hlb5).trans HX2.out; have k3 := (hSw.cell hlb5).trans HX3.out; have hI := HI.out.on hSw; have i1 := hI.cell 1; have i2 := hI.cell 2; have i3 := hI.cell 3; go_simp; try with_reducible rfl)
        try simp only [Act.put, List.getElem_toArray, List.getElem_cons_zero, List.getElem_cons_succ, List.setIfInBounds_toArray, List.set_cons_zero, List.set_cons_succ]
        refine wpAnyG_take (i := 16) (v := ?_) rfl (by kernel_rfl) (by kernel_rfl) (by kernel_rfl) (by kernel_rfl) (fun _ _ _ h => h) (Or.inl ⟨by kernel_rfl, ?hy16⟩) (by assumption) ?_
        case hy16 => (intro wI hSw; (try dsimp only at hSw); have k2 := (hSw.cell hlb5).trans HX2.out; have k3 := (hSw.cell hlb5).trans HX3.out; have hI := HI.out.on hSw; have i1 := hI.cell 1; have i2 := hI.cell 2; have i3 := hI.cell 3; go_simp; try with_reducible rfl)
        try simp only [Act.put, List.getElem_toArray, List.getElem_cons_zero, List.getElem_cons_succ, List.setIfInBounds_toArray, List.set_cons_zero, List.set_cons_succ]
        refine wpAnyG_take (i := 17) (v := ?_) rfl (by kernel_rfl) (by kernel_rfl) (by kernel_rfl) (by kernel_rfl) (fun _ _ _ h => h) (Or.inl ⟨by kernel_rfl, ?hy17⟩) (by assumption) ?_
        case hy17 => (intro wI hSw; (try dsimp only at hSw); have k2 := (hSw.cell hlb5).trans HX2.out; have k3 := (hSw.cell hlb5).trans HX3.out; have hI := HI.out.on hSw; have i1 := hI.cell 1; have i2 := hI.cell 2; have i3 := hI.cell 3; go_simp; try with_reducible rfl)
        try simp only [Act.put, List.getElem_toArray, List.getElem_cons_zero, List.getElem_cons_succ, List.setIfInBounds_toArray, List.set_cons_zero, List.set_cons_succ]
        have hG := hHeld
        clear hHeld
        have hHeld : True := trivial
        refine wpAnyG_gateOp rfl (by kernel_rfl) (fun K hK => ?_)
        go_simp
        go_wp2_with fail
        refine (rdraw_any (HC5.out.on hG) z2 z3 g1 g2 hi2 hi3 HGO.out.kw HGO.out.kh ga gn gc gl (HP5.out.on hG) hgl (fun hn x hx => by simpa using HGP.out hn x hx) al nl cl l (HE5.out.on hG)).mono ?_
        rintro e W18 ⟨rfl, hC6, hk6⟩
        rw [← HN.out] at hC6
        have HC6 := hid hC6
        have HK6 := hid ((HK5.out.trans (kp_of_below hG []) (by simp)).trans hk6 (fun k hk _ => hk))
        have HE6 := hid ((HE5.out.on hG).kept hk6 (HNO.out _ _ (HC5.out.on hG)))
        refine hK.out _ _ trivial (fun _ => ?_)
        clear hK K hC6 hk6 hG
        try simp only [Act.put, List.getElem_toArray, List.getElem_cons_zero, List.getElem_cons_succ, List.setIfInBounds_toArray, List.set_cons_zero, List.set_cons_succ]
        refine wpAnyH_done (by kernel_rfl) ?_ _
        go_wp2
        go_roundw
        case rel => exact ⟨j + 1, by go_num, by omega, HC6.out, HK6.out, HE6.out⟩
        case measure => simp [numOf]; omega
    · have e1 : decide ((j : Int) < n) = false := decide_eq_false (by omega)
      have HF : Hid (M = P) := by
        rw [Hid, HP.out, HM.out, List.take_of_length_le (by rw [HL.out]; omega)]
      rw [HF.out] at HC4
      go_wp2
      go_end0
      exact ⟨rfl, HC4.out, HK4.out⟩
end Go.Proofs.YtlkodgmnhphfcaaGreatDoor

/- Repaint: the contract of the program's Part. -/
namespace Go.Proofs.YtlkodgmnhphfcaaGreatDoor
open Go Go.RowKit

variable {w w' : World} {p b W H : Nat} {L : List Int}

set_option maxRecDepth 100000 in
set_option maxHeartbeats 4000000 in
theorem qpart_any (h : Cv 63 w p b W H L) (v : Int) (hv : Col v) (a : Option Addr) (n c : Nat) (V : List (List Int)) (hr : RdM 6 w a n c V) (hVi : ∀ y ∈ V, ∀ z ∈ y, I64 z) (hrb : 0 < n → ∀ x, a = some x → x.block ≠ b)
    (a' : Option Addr) (n' c' : Nat) (gs : List Gv) (hg : RdG w a' n' c' gs) (hga : GAp [b] a' n' gs) (hgn : ∀ g ∈ gs, g.n ≤ 400) (al : Option Addr) (nl cl : Nat) (l : List Rc) (hl : RdC w al nl cl l) (hnl : nl ≤ 40) :
    Calls Tryz.prog 13 #[.pointer (some ⟨p, 0, none⟩), .int .u32 v, .slice a n c, .slice a' n' c', .slice al nl cl] w fun e w' => e = .returned (.tuple #[]) ∧ Cv 63 w' p b W H (pnc W v l V (gs.map gcl) L) ∧ Kp [b] w w' := by
  have hs := hr.small
  have hs' := hg.small
  have HL := hid hr.len
  have hlt := h.lt
  have HR := hid hr
  have HG := hid hg
  have HGA := hid hga
  have HVI := hid hVi
  have HGN := hid hgn
  have HRB := hid hrb
  have HNO : Hid (∀ (wr : World) M, Cv 63 wr p b W H M → ∀ i z, wr.cell? ⟨b, i, none⟩ ≠ some (.int .i64 z)) := fun wr M hC i z hz => hC.no64 hz
  have CFI := hid (cfill_any h v hv al nl cl l hl hnl)
  have HLK : Hid (∀ u, Kp [b] w u → RdC u al nl cl l) := fun u hk => hl.kept hk (HNO.out w L h)
  obtain ⟨P, hP⟩ : ∃ P, P = pnc W v l V (gs.map gcl) L := ⟨_, rfl⟩
  have HP : Hid (P = V.foldl (ptc W l (gs.map gcl)) (fll W v l L)) := hP
  rw [← hP]
  clear h hr hg hga hVi hgn hP hrb hl
  go_enter Tryz.func13, Tryz.ntmps13
  go_wp2_with fail
  refine CFI.out.mono ?_
  rintro e w3 ⟨rfl, hC3, hk3⟩
  have HC3 := hid hC3
  have HK3 := hid hk3
  clear hC3 hk3 CFI
  go_wp2
  go_loopw [20] (fun i wr => ∃ j : Nat, i = .int .i64 j ∧ j ≤ n ∧ Cv 63 wr p b W H ((V.take j).foldl (ptc W l (gs.map gcl)) (fll W v l L)) ∧ Kp [b] w wr) (fun i _ => n - (numOf i).toNat)
  case atStart => exact ⟨0, rfl, by omega, HC3.out, HK3.out⟩
  case round =>
    obtain ⟨j, rfl, hj, hC, hK⟩ := hrel
    have HC4 := hid hC
    have HK4 := hid hK
    have hbw := hC.lt
    clear hC hK HC3 HK3
    obtain ⟨M, hM⟩ : ∃ M, M = (V.take j).foldl (ptc W l (gs.map gcl)) (fll W v l L) := ⟨_, rfl⟩
    rw [← hM] at HC4
    have HM := hid hM
    clear hM
    by_cases hgo : j < n
    · have e1 : decide ((j : Int) < n) = true := decide_eq_true (by omega)
      have e2 : (j : Int) < n := by omega
      obtain ⟨b1, o1, z0, z1, z2, z3, z4, z5, rfl, hb1, hy, d0, d1, d2, d3, d4, d5⟩ := (HR.out.kp HK4.out (fun x hx hn => by simpa using HRB.out hn x hx)).el6 hgo
      have HY := hid hy
      have hi2 : I64 z2 := HVI.out _ (List.mem_of_getElem? hy) z2 (by simp)
      have hi3 : I64 z3 := HVI.out _ (List.mem_of_getElem? hy) z3 (by simp)
      have hA := bel_new wr (.cells #[.int .i64 z0, .int .i64 z1, .int .i64 z2, .int .i64 z3, .int .i64 z4, .int .i64 z5] 65)
      have HA := hid hA
      have HV := hid (bk_new wr #[.int .i64 z0, .int .i64 z1, .int .i64 z2, .int .i64 z3, .int .i64 z4, .int .i64 z5] 65)
      have HG4 := hid ((HG.out.kp HK4.out HGA.out).on hA)
      have CF := hid (pfind_any a' n' c' gs z1 _ HG4.out (fun g hg => by have := HGN.out g hg; omega))
      have HST : Hid ((V.take (j + 1)).foldl (ptc W l (gs.map gcl)) (fll W v l L) = ptc W l (gs.map gcl) M [z0, z1, z2, z3, z4, z5]) := by rw [Hid, foldl_step hy, ← HM.out]
      have hsz : (wr.alloc (.cells #[.int .i64 z0, .int .i64 z1, .int .i64 z2, .int .i64 z3, .int .i64 z4, .int .i64 z5] 65)).heap.size = wr.heap.size + 1 := size_new _ _
      have HSZ := hid hsz
      clear hA hy hsz
      cases hgf : gf z1 gs with
      | none =>
        rw [hgf] at CF
        have HN : Hid ((V.take (j + 1)).foldl (ptc W l (gs.map gcl)) (fll W v l L) = M) := by rw [Hid, HST.out, ptc_none (show gf (nm5 1 [z0, z1, z2, z3, z4, z5]) gs = none from hgf)]
        clear hgf
        go_wp2_with fail
        refine CF.out.mono ?_
        rintro e w5 ⟨a5, c5, rfl, _, _, hb5⟩
        have hB5 := Below.on (Below.on HA.out hb5) (bel_new w5 (.cells #[.int .i64 0, .int .i64 0, .int .i64 0, .slice a5 0 c5] 60))
        have HC5 := hid (HC4.out.on hB5)
        have HK5 := hid (HK4.out.trans (kp_of_below hB5 []) (by simp))
        rw [← HN.out] at HC5
        clear hb5 hB5 HC4 HK4
        go_wp2
        go_roundw
        case rel => exact ⟨j + 1, by go_num, by omega, HC5.out, HK5.out⟩
        case measure => simp [numOf]; omega
      | some g =>
        rw [hgf] at CF
        have hgm := gf_mem hgf
        have hgl := HGN.out g hgm
        have HN : Hid ((V.take (j + 1)).foldl (ptc W l (gs.map gcl)) (fll W v l L) = drw W z2 z3 g.w g.h g.l l M) := by
          rw [Hid, HST.out, ptc_some (show gf (nm5 1 [z0, z1, z2, z3, z4, z5]) gs = some g from hgf)]
          rfl
        have HGO := hid (HG4.out.ok g hgm)
        obtain ⟨g0, g1, g2, ga, gn, gc, gl⟩ := g
        unfold FdN at CF
        dsimp only [Option.getD_some, Option.isSome_some] at CF
        dsimp only at hgl HN
        clear hgf hgm
        go_wp2_with fail
        refine CF.out.mono ?_
        rintro e w5 ⟨a5, c5, rfl, hr5, hn5, hb5⟩
        have hX := bel_new w5 (.cells #[.int .i64 g0, .int .i64 g1, .int .i64 g2, .slice a5 gn c5] 60)
        have hI := bk_new w5 #[.int .i64 g0, .int .i64 g1, .int .i64 g2, .slice a5 gn c5] 60
        have hB5 := Below.on (Below.on HA.out hb5) hX
        have hV5 := (HV.out.on hb5).on hX
        have HC5 := hid (HC4.out.on hB5)
        have HK5 := hid (HK4.out.trans (kp_of_below hB5 []) (by simp))
        have hp5 := hr5.on hX
        have hab : 0 < gn → ∀ x, a5 = some x → x.block ≠ b := fun _ x hx => by
          have h1 := hn5 x hx
          have h2 := HSZ.out
          omega
        have q2 := hV5.cell 2
        have q3 := hV5.cell 3
        have i1 := hI.cell 1
        have i2 := hI.cell 2
        have i3 := hI.cell 3
        have CD := hid (cdraw_any HC5.out z2 z3 g1 g2 hi2 hi3 HGO.out.kw HGO.out.kh a5 gn c5 gl hp5 hgl hab al nl cl l (HLK.out _ HK5.out) hnl)
        rw [← HN.out] at CD
        clear hb5 hX hI hB5 hV5 hp5 hr5 hn5 hab HC4 HK4 HST HN HV HA CF HSZ
        go_wp2_with fail
        refine CD.out.mono ?_
        rintro e w6 ⟨rfl, hC6, hk6⟩
        have HC6 := hid hC6
        have HK6 := hid (HK5.out.trans hk6 (fun k hk _ => hk))
        clear hC6 hk6 HC5 HK5 CD
        go_wp2
        go_roundw
        case rel => exact ⟨j + 1, by go_num, by omega, HC6.out, HK6.out⟩
        case measure => simp [numOf]; omega
    · have e1 : decide ((j : Int) < n) = false := decide_eq_false (by omega)
      have HF : Hid (M = P) := by
        rw [Hid, HP.out, HM.out, List.take_of_length_le (by rw [HL.out]; omega)]
      rw [HF.out] at HC4
      go_wp2
      go_end0
      exact ⟨rfl, HC4.out, HK4.out⟩
end Go.Proofs.YtlkodgmnhphfcaaGreatDoor
