/- The document's Times and Now. -/
import Derived.Test.YtmihmajhfoghpaaUseF
namespace Go.Proofs.Ytmihmajhfoghpaa
open Go Go.RowKit

/-- The document's uses at q: its rows. -/
structure Udst (w : World) (q : Nat) (vL vT : Value) (L told : List Int) : Prop where
  var : w.heap[q]? = some (.cells #[vL, vT] 28 (0, 0))
  rl : w.ownsRow 0 3 1 vL L.length (L.map encZ)
  rt : w.ownsRow 0 3 1 vT told.length (told.map encZ)
  nl : vL.ownBlock ≠ some q
  nt : vT.ownBlock ≠ some q
  nlt : ∀ k, vL.ownBlock = some k → vT.ownBlock ≠ some k
  pos : ∀ z ∈ L, 0 < z ∧ z ≤ 9223372036854775807

variable {w w' : World} {q : Nat} {vL vT : Value} {L told : List Int}

theorem Udst.lt (h : Udst w q vL vT L told) : q < w.heap.size := (Array.getElem?_eq_some_iff.1 h.var).1
theorem Udst.kept {X : List Nat} (h : Udst w q vL vT L told) (hk : Kp X w w') (hq : q ∉ X) (hl : ∀ k, vL.ownBlock = some k → k ∉ X) (ht : ∀ k, vT.ownBlock = some k → k ∉ X) : Udst w' q vL vT L told :=
  ⟨hk.var h.var hq, hk.row h.rl hl, hk.row h.rt ht, h.nl, h.nt, h.nlt, h.pos⟩
theorem Udst.on (h : Udst w q vL vT L told) (hb : Below w.heap.size w w') : Udst w' q vL vT L told := h.kept (kp_of_below hb []) (by simp) (by simp) (by simp)
theorem Udst.c0 (h : Udst w q vL vT L told) : w.cell? ⟨q, 0, none⟩ = some vL := by rw [Lib.cell_of_heap h.var]; rfl
theorem Udst.c1 (h : Udst w q vL vT L told) : w.cell? ⟨q, 1, none⟩ = some vT := by rw [Lib.cell_of_heap h.var]; rfl

theorem count_snoc (l : List Int) (j : Nat) (z id : Int) (h : l[j]? = some z) : (l.take (j + 1)).count id = (l.take j).count id + if z = id then 1 else 0 := by
  rw [List.take_add_one, h, Option.toList, List.count_append, List.count_singleton]
  by_cases e : z = id <;> simp [e]

set_option maxRecDepth 100000 in
theorem rtimes_any (hT : Udst w q vL vT L told) (hn : told.length ≤ 1000000000) (id : Int) :
    Calls Try.prog 14 #[.pointer (some ⟨q, 0, none⟩), .int .i64 id] w fun e w' => e = .returned (.int .i64 (told.count id : Nat)) ∧ w' = w := by
  obtain ⟨a, c, rfl, hl, hle, hmx, hnil, hcell⟩ := ints_of_owns hT.rt
  simp only [maxLen] at hmx
  have c1 := hT.c1
  have l0 := hT.lt
  have HC := hid hcell
  have HN := hid hnil
  obtain ⟨N, hN⟩ : ∃ N, N = told.length := ⟨_, rfl⟩
  have HNN := hid hN
  rw [← hN] at hle c1 hn
  have HEND : Hid (told.take N = told) := by rw [Hid, hN, List.take_length]
  clear hT hcell hnil hl hN
  go_enter Try.func14, Try.ntmps14
  go_wp2
  go_loopw [5, 6] (fun m i wx => ∃ j r : Nat, i = .int .i64 j ∧ j ≤ N ∧ m = .int .i64 r ∧ r = (told.take j).count id ∧ wx = w) (fun _ i _ => N - (numOf i).toNat)
  case atStart => exact ⟨0, 0, rfl, by omega, rfl, by simp, rfl⟩
  case round =>
    obtain ⟨j, r, rfl, hj, rfl, hr, rfl⟩ := hrel
    have HR := hid hr
    have hrb : r ≤ 1000000000 := by rw [hr]; exact Nat.le_trans List.count_le_length (by rw [List.length_take]; omega)
    clear hr
    by_cases hgo : j < N
    · have e1 : decide ((j : Int) < N) = true := decide_eq_true (by omega)
      obtain ⟨y, rfl⟩ : ∃ y, a = some y := by
        cases a with
        | none => have := HN.out rfl; omega
        | some y => exact ⟨y, rfl⟩
      obtain ⟨g, rfl, -, hg, hcc⟩ := HC.out y rfl
      obtain ⟨z, hz⟩ : ∃ z, told[j]? = some z := ⟨_, List.getElem?_eq_getElem (by rw [← HNN.out]; exact hgo)⟩
      have cz := hcc j z hz
      have hjn : (j : Int) < N := by omega
      have HS := hid (count_snoc told j z id hz)
      clear hz hcc
      by_cases he : z = id
      · have e2 : (z == id) = true := by simpa using he
        rw [if_pos he, ← HR.out] at HS
        clear he
        go_wp2
        go_roundw
        case rel => exact ⟨j + 1, r + 1, by go_num, by omega, by go_num, HS.out.symm, trivial⟩
        case measure => simp [numOf]; omega
      · have e2 : (z == id) = false := by simpa using he
        rw [if_neg he, ← HR.out] at HS
        clear he
        go_wp2
        go_roundw
        case rel => exact ⟨j + 1, r, by go_num, by omega, rfl, HS.out.symm, trivial⟩
        case measure => simp [numOf]; omega
    · have hjn : j = N := by omega
      have e1 : decide ((j : Int) < N) = false := decide_eq_false (by omega)
      rw [hjn, HEND.out] at HR
      clear hjn
      go_wp2
      go_ret
      rw [← HR.out]
      exact ⟨rfl, rfl⟩

theorem gone_take (L zs : List Int) (j : Nat) (z : Int) (h : L[j]? = some z) : gone (L.take (j + 1)) zs = gone (L.take j) zs ++ if z ∈ zs then [] else [z] := by
  rw [gone, gone, List.take_add_one, h, Option.toList, List.filter_append]
  by_cases hz : z ∈ zs <;> simp [hz]

/-- What the document's Now answers. -/
def RNow (w : World) (q : Nat) (vT : Value) (L told zs : List Int) (e : Ending) (w' : World) : Prop :=
  ∃ v vL' vT', e = .returned v ∧ w'.ownsRow w.heap.size 3 1 v (gone L zs).length ((gone L zs).map encZ) ∧ Udst w' q vL' vT' (setOf zs) (told ++ gone L zs) ∧ Kp (q :: vT.ownBlock.toList) w w' ∧ (∀ k, vL'.ownBlock = some k → w.heap.size ≤ k) ∧ (∀ k, vT'.ownBlock = some k → vT.ownBlock = some k ∨ w.heap.size ≤ k)

set_option maxRecDepth 100000 in
set_option maxHeartbeats 2000000 in
theorem rnow_any (hT : Udst w q vL vT L told) (s : Option Addr) (n c : Nat) (zs : List Int) (hr : RdI .i64 w s n c zs) (hn : n ≤ 1000000) (hL : L.length ≤ 1000000) (ht : told.length ≤ 1000000000) :
    Calls Try.prog 11 #[.pointer (some ⟨q, 0, none⟩), .slice s n c] w fun e w' => RNow w q vT L told zs e w' := by
  obtain ⟨i0, hi, hz0, hz1, hz2⟩ := info_parts infoInt
  have HS := hid (rset_any w s n c zs hr hn)
  have HT := hid hT
  have l0 := hT.lt
  have HWF : Hid (∀ z ∈ setOf zs, I64 z) := fun z hz => of_wf64 (hr.wf z ((mem_setOf zs z).1 hz).2)
  obtain ⟨a, cL, rfl, -, hle, hmx, hnil, -⟩ := ints_of_owns hT.rl
  simp only [maxLen] at hmx
  have HNIL := hid hnil
  obtain ⟨N, hN⟩ : ∃ N, N = L.length := ⟨_, rfl⟩
  have HNN := hid hN
  have HC0 := hid hT.c0
  rw [← hN] at hle hL HC0
  have HEND : Hid (gone (L.take N) zs = gone L zs) := by rw [Hid, hN, List.take_length]
  clear hr hT hnil hN
  go_enter Try.func11, Try.ntmps11
  go_wp2_with fail
  refine HS.out.mono ?_
  rintro e w1 ⟨v1, rfl, hv1, hb1⟩
  obtain ⟨a1, c1, rfl, hrd1, -⟩ := rdi_of_owns hv1 HWF.out
  have HV1 := hid hv1
  have HR1 := hid hrd1
  have HT1 := hid (HT.out.on hb1)
  have HB1 := hid hb1
  have HC1 : Hid (w1.cell? ⟨q, 0, none⟩ = some (.slice a N cL)) := (kp_of_below hb1 []).cell HC0.out (by simp)
  have hs1 := hb1.size
  have l1 : q < w1.heap.size := Nat.lt_of_lt_of_le l0 hs1
  clear hv1 hrd1 hb1 HS
  obtain ⟨n1, hn1⟩ : ∃ n1, n1 = (setOf zs).length := ⟨_, rfl⟩
  have HN1 := hid hn1
  rw [← hn1] at HV1 HR1 ⊢
  clear hn1
  go_wp2
  go_loopw [6, 7] (fun v i wx => ∃ j : Nat, i = .int .i64 j ∧ j ≤ N ∧ wx.ownsRow w1.heap.size 3 1 v (gone (L.take j) zs).length ((gone (L.take j) zs).map encZ) ∧ RowKit.Below w1.heap.size w1 wx) (fun _ i _ => N - (numOf i).toNat)
  case atStart => exact ⟨0, rfl, by omega, by rw [List.take_zero, gone_none]; exact World.ownsRow_nil _ _ _ _, Below.refl _ _⟩
  case round =>
    obtain ⟨j, rfl, hj, hr, hbw⟩ := hrel
    have c0 := (kp_of_below hbw []).cell HC1.out (by simp)
    have l2 : q < wr.heap.size := Nat.lt_of_lt_of_le l1 hbw.size
    by_cases hgo : j < N
    · have e1 : decide ((j : Int) < N) = true := decide_eq_true (by omega)
      obtain ⟨y, rfl⟩ : ∃ y, a = some y := by
        cases a with
        | none => have := HNIL.out rfl; omega
        | some y => exact ⟨y, rfl⟩
      obtain ⟨a', c', e', -, -, -, -, hcell⟩ := ints_of_owns (HT1.out.on hbw).rl
      cases e'
      obtain ⟨g, rfl, -, hg, hcc⟩ := hcell y rfl
      obtain ⟨z, hz⟩ : ∃ z, L[j]? = some z := ⟨_, List.getElem?_eq_getElem (by rw [← HNN.out]; exact hgo)⟩
      have cz := hcc j z hz
      have hjn : (j : Int) < N := by omega
      have hzp := HT.out.pos z (List.mem_of_getElem? hz)
      have hmem : decide (z ∈ setOf zs) = decide (z ∈ zs) := by simp only [mem_setOf, hzp.1, true_and]
      have HHAS := hid (rhas_any wr a1 n1 c1 (setOf zs) (HR1.out.on hbw) z)
      rw [hmem] at HHAS
      have HG := hid (gone_take L zs j z hz)
      have HRR := hid hr
      have HBW := hid hbw
      obtain ⟨G, hG⟩ : ∃ G, G = gone (L.take j) zs := ⟨_, rfl⟩
      have hGl : G.length ≤ 1000000 := by rw [hG]; exact Nat.le_trans (gone_length _ _) (by rw [List.length_take]; omega)
      rw [← hG] at HG HRR
      clear hr hbw hz hcc hcell hmem hG
      by_cases hm : z ∈ zs
      · have e2 : decide (z ∈ zs) = true := decide_eq_true hm
        rw [e2] at HHAS
        rw [if_pos hm, List.append_nil] at HG
        clear hm e2
        go_wp2_with fail
        refine HHAS.out.mono ?_
        rintro e w2 ⟨rfl, hw2⟩
        subst hw2
        go_wp2
        go_roundw
        case rel => exact ⟨j + 1, by go_num, by omega, by rw [HG.out]; exact HRR.out, HBW.out⟩
        case measure => simp [numOf]; omega
      · have e2 : decide (z ∈ zs) = false := decide_eq_false hm
        rw [e2] at HHAS
        rw [if_neg hm] at HG
        have HSR : Hid (Src Try.prog 1 26 (.slice (some ⟨wr.heap.size, 0, none⟩) 1 1) 1 ([z].map encZ) (wr.alloc (.cells #[.int .i64 z] 3))) :=
          (rdi_lit (zs := [z]) (heap_alloc_new wr _) (by intro x hx; simp at hx; subst hx; exact ⟨by omega, by omega⟩) (by simp [maxLen])).src Try.underlying26
        have HOW := hid (HRR.out.alloc (.cells #[.int .i64 z] 3))
        have hsz2 : w1.heap.size ≤ (wr.alloc (.cells #[.int .i64 z] 3)).heap.size := by rw [World.size_alloc]; have := HBW.out.size; omega
        clear hm e2
        go_wp2_with fail
        refine HHAS.out.mono ?_
        rintro e w2 ⟨rfl, hw2⟩
        subst hw2
        go_wp2_with (at_builtin; refine wpList_append_own_src _ rfl (.tmp 29) (.tmp 37) 26 26 rfl w1.heap.size 3 i0 (.int .i64 0) 1 8 Try.underlying26 hi hz0 hz1 hz2 rfl _ _ _ rfl HOW.out _ _ _ rfl HSR.out (by simp only [maxLen]; omega) (fits8 (by omega)) hsz2 ?_; intro v3 w3 o3 g3; have HO3 := hid o3; have HG3 := hid g3; clear o3 g3)
        go_roundw
        case rel =>
          have hm := own_more (ys := [z]) HOW.out hsz2 HO3.out HG3.out
          exact ⟨j + 1, by go_num, by omega, by rw [HG.out]; exact hm.1, (HBW.out.alloc HBW.out.size _).trans hm.2⟩
        case measure => simp [numOf]; omega
    · obtain rfl : j = N := by omega
      have e1 : decide ((j : Int) < j) = false := decide_eq_false (by omega)
      rw [HEND.out] at hr
      have hGl : (gone L zs).length ≤ 1000000 := Nat.le_trans (gone_length _ _) (by rw [← HNN.out]; exact hL)
      have HGI : Hid (∀ z ∈ gone L zs, I64 z) := fun z hz => by
        have := HT.out.pos z ((mem_gone _ _ _).1 hz).1
        exact ⟨by omega, this.2⟩
      obtain ⟨G, hG⟩ : ∃ G, G = gone L zs := ⟨_, rfl⟩
      have HGG := hid hG
      rw [← hG] at hr hGl HGI
      obtain ⟨a6, c6, rfl, -, -⟩ := rdi_of_owns hr HGI.out
      have HRR := hid hr
      have HBW := hid hbw
      have HT2 := hid (HT1.out.on hbw)
      have HV2 := hid (ownsRow_below (ownsRow_low HV1.out (Nat.le_refl _)) hbw)
      have hV := HT2.out.var
      have f0 := Lib.frozen_of_heap hV 0
      obtain ⟨ng, hng⟩ : ∃ ng, ng = G.length := ⟨_, rfl⟩
      have HNG := hid hng
      rw [← hng] at HRR hGl ⊢
      clear hr hbw hG hV hng
      go_upto_region 9 with fail
      have HKX := hid ((Kp.refl [q] wr).set ⟨q, 0, none⟩ (by simp) (.slice a1 n1 c1))
      have hVX : (wr.setCell ⟨q, 0, none⟩ (.slice a1 n1 c1)).heap[q]? = some (.cells #[.slice a1 n1 c1, vT] 28 (0, 0)) := heap_setCell_same wr q 0 _ _ _ HT2.out.var
      generalize wr.setCell ⟨q, 0, none⟩ (.slice a1 n1 c1) = X at HKX hVX ⊢
      have hsw := HBW.out.size
      have hsX := HKX.out.size
      have hqG : ∀ k, Value.ownBlock (.slice a6 ng c6) = some k → w1.heap.size ≤ k ∧ k < wr.heap.size := fun k hk => HRR.out.lt k hk
      have hqN : ∀ k, Value.ownBlock (.slice a1 n1 c1) = some k → w.heap.size ≤ k ∧ k < w1.heap.size := fun k hk => HV1.out.lt k hk
      have HGX := hid (HKX.out.row HRR.out (fun k hk => by have := hqG k hk; simp; omega))
      have HNX := hid (HKX.out.row HV2.out (fun k hk => by have := hqN k hk; simp; omega))
      have HTX := hid (HKX.out.row HT2.out.rt (fun k hk => by
        simp only [List.mem_cons, List.not_mem_nil, or_false]
        intro e
        exact HT.out.nt (by rw [hk, e])))
      have HQG := hid hqG
      have HQN := hid hqN
      obtain ⟨a7, c7, e7, hrd7, -⟩ := rdi_of_owns HGX.out HGI.out
      cases e7
      have HSR := hid (hrd7.src (P := Try.prog) (t := 26) (e := 3) Try.underlying26)
      have hx1 : X.cell? ⟨q, 1, none⟩ = some vT := by rw [Lib.cell_of_heap hVX]; rfl
      have hlX : q < X.heap.size := (Array.getElem?_eq_some_iff.1 hVX).1
      have HVX := hid hVX
      have HPV : Hid (∀ y, X.grownBy y vT.ownBlock → y.heap[q]? = some (.cells #[.slice a1 n1 c1, vT] 28 (0, 0))) := fun y hy => (kp_of_grown hy).var HVX.out (by
        intro hm
        exact HT.out.nt (by simpa using hm))
      have HPX : Hid (∀ y, X.grownBy y vT.ownBlock → y.cell? ⟨q, 1, none⟩ = some vT ∧ y.frozen? ⟨q, 1, none⟩ = false ∧ q < y.heap.size) := fun y hy => by
        have h := HPV.out y hy
        exact ⟨by rw [Lib.cell_of_heap h]; rfl, Lib.frozen_of_heap h 1, (Array.getElem?_eq_some_iff.1 h).1⟩
      clear hVX hqG hqN hrd7 c0 f0
      go_wp2_with (at_builtin; refine wpList_append_own_at _ rfl (.tmp 47) (.tmp 48) 26 26 rfl 0 3 i0 (.int .i64 0) 1 8 Try.underlying26 hi hz0 hz1 hz2 rfl _ _ _ rfl HTX.out _ _ _ rfl HSR.out (by simp only [maxLen]; omega) (fits8 (by omega)) (Nat.zero_le _) ?_; intro v3 w3 o3 g3 p3; obtain ⟨x1, f1, lw3⟩ := HPX.out _ g3; obtain ⟨a8, c8, rfl, -, -, -, -⟩ := row_of o3; have HO3 := hid o3; have HG3 := hid g3; have HP3 := hid p3; clear o3 g3 p3)
      go_ret
      have hV3 := HPV.out _ HG3.out
      have hk2 : Kp vT.ownBlock.toList X w3 := kp_of_grown HG3.out
      have hk3 := (Kp.refl [q] w3).set ⟨q, 1, none⟩ (by simp) (.slice a8 (told.length + ng) c8)
      have hkw : Kp (q :: vT.ownBlock.toList) w wr := kp_of_below (Below.on HB1.out (HBW.out.trans (Below.refl _ _))) _
      have hvt : ∀ k, vT.ownBlock = some k → k < w.heap.size := fun k hk => (HT.out.rt.lt k hk).2
      have hvq := HT.out.nt
      have hp3 : ∀ k, Value.ownBlock (.slice a8 (told.length + ng) c8) = some k → vT.ownBlock = some k ∨ k = X.heap.size := fun k hk => by
        rcases HP3.out with h | h
        · exact .inl (by rw [← hk]; exact h.symm)
        · right
          have h2 : some k = some X.heap.size := hk.symm.trans h
          exact Option.some.inj h2
      have hG : gone L zs = G := HGG.out.symm
      refine ⟨_, .slice a1 n1 c1, .slice a8 (told.length + ng) c8, rfl, ?_, ⟨heap_setCell_same w3 q 1 _ _ _ hV3, ?_, ?_, ?_, ?_, ?_, ?_⟩, ?_, fun k hk => (HQN.out k hk).1, fun k hk => ?_⟩
      · rw [hG, ← HNG.out]
        refine hk3.row (hk2.row (ownsRow_low HGX.out hs1) (fun k hk hm => ?_)) (fun k hk => ?_)
        · have h1 := HQG.out k hk
          have h2 := hvt k (by simpa using hm)
          omega
        · have h1 := HQG.out k hk
          simp
          omega
      · rw [← HN1.out]
        refine hk3.row (hk2.row (ownsRow_low HNX.out (Nat.zero_le _)) (fun k hk hm => ?_)) (fun k hk => ?_)
        · have h1 := HQN.out k hk
          have h2 := hvt k (by simpa using hm)
          omega
        · have h1 := HQN.out k hk
          simp
          omega
      · rw [hG, List.length_append, ← HNG.out, List.map_append]
        refine hk3.row HO3.out (fun k hk => ?_)
        rcases hp3 k hk with h | h
        · simp only [List.mem_cons, List.not_mem_nil, or_false]
          intro e
          exact hvq (by rw [h, e])
        · simp
          omega
      · intro h
        have := HQN.out _ h
        omega
      · intro h
        rcases hp3 _ h with h | h
        · exact hvq h
        · omega
      · intro k hk h
        have h1 := HQN.out k hk
        rcases hp3 _ h with h | h
        · have := hvt k h
          omega
        · omega
      · intro z hz
        have h1 := setOf_pos zs z hz
        have h2 := HWF.out z hz
        exact ⟨h1, h2.2⟩
      · have h1 : Kp (q :: vT.ownBlock.toList) w X := hkw.trans HKX.out (fun k hk _ => by simp only [List.mem_cons, List.not_mem_nil, or_false] at hk; rw [hk]; exact List.mem_cons_self)
        have h2 : Kp (q :: vT.ownBlock.toList) w w3 := h1.trans hk2 (fun k hk _ => List.mem_cons_of_mem _ hk)
        exact h2.trans hk3 (fun k hk _ => by simp only [List.mem_cons, List.not_mem_nil, or_false] at hk; rw [hk]; exact List.mem_cons_self)
      · rcases hp3 k hk with h | h
        · exact .inl h
        · right
          omega
end Go.Proofs.Ytmihmajhfoghpaa
