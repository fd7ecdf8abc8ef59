/- Lemmas that the proof leans on. -/
import Derived.Test.YtpbgbpcdohdecaaGreatDoorB37
namespace Go.Proofs.YtpbgbpcdohdecaaGreatDoor
open Go Go.RowKit
set_option maxRecDepth 100000
set_option maxHeartbeats 2000000
section
theorem clean_any (s : ByteArray) (hs : s.size ≤ 1152921504606846976) (w : World) :
  Calls Tryz.prog 232 #[.string s] w fun e w' => e = .returned (.bool (!s.data.toList.contains 0)) ∧ w' = w := by
 have HZ : Hid (s.data.toList.length = s.size) := size_toList s
 generalize hq : (!s.data.toList.contains 0) = Q
 have HQ1 : Hid ((0 : UInt8) ∈ s.data.toList → Q = false) := by
  intro h
  rw [← hq]
  simp [h]
 have HQ2 : Hid ((0 : UInt8) ∉ s.data.toList → Q = true) := by
  intro h
  rw [← hq]
  simp [h]
 clear hq
 go_enter Tryz.func232, Tryz.ntmps232
 go_wp2
 go_loop [3] (fun i => ∃ k : Nat, k ≤ s.size ∧ i = .int .i64 k ∧ ∀ j (hj : j < s.size), j < k → s[j] ≠ 0) (fun i => s.size - (RowKit.intOf i).toNat)
 case atStart => exact ⟨0, Nat.zero_le _, rfl, fun j _ h => by omega⟩
 case round =>
  obtain ⟨k, hk, rfl, hz⟩ := hrel
  have Hz : Hid (∀ j (hj : j < s.size), j < k → s[j] ≠ 0) := hz
  clear hz
  by_cases hlt : k < s.size
  ·by_cases h0 : s[k] = 0
   ·have h0' : ((s[k].toNat : Int) == 0) = true := by rw [h0]; rfl
    have HQ : Hid (Q = false) := HQ1.out (by have := str_at s k hlt; rw [h0] at this; exact List.mem_of_getElem? this)
    clear h0 HQ1 HQ2
    go_wp2
    go_ret
    exact ⟨by rw [HQ.out]; rfl, rfl⟩
   ·have h0' : ((s[k].toNat : Int) == 0) = false := beq_eq_false_iff_ne.2 fun e => h0 (UInt8.toNat_inj.1 (by simpa using e))
    have H0 : Hid (s[k] ≠ 0) := h0
    clear h0
    go_wp2
    go_round
    case rel => exact ⟨k + 1, by omega, by go_num, fun j hj h => by rcases Nat.lt_or_ge j k with h' | h'; exact Hz.out j hj h'; obtain rfl : j = k := (by omega); exact H0.out⟩
    case measure => simp [RowKit.intOf]; omega
  ·have HQ : Hid (Q = true) := HQ2.out (by
    intro hm
    obtain ⟨j, hj, e⟩ := List.getElem_of_mem hm
    have hj' : j < s.size := by rw [← HZ.out]; exact hj
    exact Hz.out j hj' (by omega) (by rw [← e]; rfl))
   clear HQ1 HQ2
   go_wp2
   go_ret
   exact ⟨by rw [HQ.out]; rfl, rfl⟩
theorem rsuch_ne (k z : Nat) (n : Int) (s : ByteArray) (hne : k ≠ z) (w : World) :
  Calls Tryz.prog 163 #[.agg #[.int .u8 k, .int .i64 n, .string s], .int .u8 z] w fun e w' => e = .returned (.bool (okArg k n s.data.toList z)) ∧ Below w.heap.size w w' := by
 have H : Hid (okArg k n s.data.toList z = false) := by simp [Hid, okArg, hne]
 rw [H.out]
 have h1 : ((k : Int) != z) = true := ne_bne hne
 clear hne
 go_enter Tryz.func163, Tryz.ntmps163
 go_wp2
 go_ret
 exact ⟨rfl, (Below.refl _ _).alloc (Nat.le_refl _) _⟩
theorem okArg_self (k : Nat) (n : Int) (l : List UInt8) : okArg k n l k = suchB k n l := by simp [okArg]
theorem rsuch_same (k : Nat) (n : Int) (s : ByteArray) (hs : s.size ≤ 1152921504606846976) (w : World) :
  Calls Tryz.prog 163 #[.agg #[.int .u8 k, .int .i64 n, .string s], .int .u8 k] w fun e w' => e = .returned (.bool (suchB k n s.data.toList)) ∧ Below w.heap.size w w' := by
 have hkk : ((k : Int) != k) = false := by simp
 have HS : Hid (s.data.toList.length = s.size) := size_toList s
 by_cases h1 : k = 105 ∨ k = 102 ∨ k = 117 ∨ k = 111 ∨ k = 110
 ·rcases h1 with rfl | rfl | rfl | rfl | rfl
  all_goals
   go_enter Tryz.func163, Tryz.ntmps163
   go_wp2
   all_goals
    go_ret
    refine ⟨ret_bool_WordT ?_, (Below.refl _ _).alloc (Nat.le_refl _) _⟩
    rw [← data_toList]
    simp_all [suchB]
    try omega
 ·by_cases h2 : k = 97
  ·subst h2
   go_enter Tryz.func163, Tryz.ntmps163
   go_wp2
   all_goals
    go_ret
    refine ⟨ret_bool_WordT ?_, (Below.refl _ _).alloc (Nat.le_refl _) _⟩
    have h2 := HS.out
    simp_all [suchB]
    try omega
  ·by_cases h3 : k = 115
   ·subst h3
    by_cases hn : n = 0
    ·subst hn
     by_cases hl : s.size ≤ 200
     ·have e1 : decide ((s.size : Int) ≤ 200) = true := decide_eq_true (by omega)
      have HQ : Hid (suchB 115 0 s.data.toList = !s.data.toList.contains 0) := by
       have h2 := HS.out
       simp only [Hid]
       simp [suchB, h2, hl]
      rw [HQ.out]
      have HC : Hid (∀ u, Calls Tryz.prog 232 #[.string s] u fun e w' => e = .returned (.bool (!s.data.toList.contains 0)) ∧ w' = u) := fun u => clean_any s hs u
      generalize (!s.data.toList.contains 0) = Q at *
      clear h1 h2 hl HQ
      go_enter Tryz.func163, Tryz.ntmps163
      go_wp2_with fail
      refine (HC.out _).mono ?_
      rintro e w1 ⟨rfl, hw1⟩
      subst hw1
      go_wp2
      go_ret
      exact ⟨rfl, (Below.refl _ _).alloc (Nat.le_refl _) _⟩
     ·have e1 : decide ((s.size : Int) ≤ 200) = false := decide_eq_false (by omega)
      have HQ : Hid (suchB 115 0 s.data.toList = false) := by
       have h2 := HS.out
       simp only [Hid]
       simp [suchB, h2, hl]
      rw [HQ.out]
      clear h1 h2 hl HQ
      go_enter Tryz.func163, Tryz.ntmps163
      go_wp2
      go_ret
      exact ⟨rfl, (Below.refl _ _).alloc (Nat.le_refl _) _⟩
    ·have e1 : (n == 0) = false := beq_eq_false_iff_ne.2 hn
     have HQ : Hid (suchB 115 n s.data.toList = false) := by simp [Hid, suchB, hn]
     rw [HQ.out]
     clear h1 h2 hn HQ
     go_enter Tryz.func163, Tryz.ntmps163
     go_wp2
     go_ret
     exact ⟨rfl, (Below.refl _ _).alloc (Nat.le_refl _) _⟩
   ·have e1 : ((k : Int) == 105) = false := beq_eq_false_iff_ne.2 (by omega)
    have e2 : ((k : Int) == 102) = false := beq_eq_false_iff_ne.2 (by omega)
    have e3 : ((k : Int) == 110) = false := beq_eq_false_iff_ne.2 (by omega)
    have e4 : ((k : Int) == 117) = false := beq_eq_false_iff_ne.2 (by omega)
    have e5 : ((k : Int) == 111) = false := beq_eq_false_iff_ne.2 (by omega)
    have e6 : ((k : Int) == 115) = false := beq_eq_false_iff_ne.2 (by omega)
    have e7 : ((k : Int) == 97) = false := beq_eq_false_iff_ne.2 (by omega)
    have H : Hid (suchB k n s.data.toList = false) := by
     simp only [Hid]
     unfold suchB
     repeat' split
     all_goals first | rfl | omega
    clear h1 h2 h3
    rw [H.out]
    go_enter Tryz.func163, Tryz.ntmps163
    go_wp2
    go_ret
    exact ⟨rfl, (Below.refl _ _).alloc (Nat.le_refl _) _⟩
theorem rsuch_any (k z : Nat) (n : Int) (s : ByteArray) (hs : s.size ≤ 1152921504606846976) (w : World) :
  Calls Tryz.prog 163 #[.agg #[.int .u8 k, .int .i64 n, .string s], .int .u8 z] w fun e w' => e = .returned (.bool (okArg k n s.data.toList z)) ∧ Below w.heap.size w w' := by
 by_cases h : k = z
 ·subst h
  rw [okArg_self]
  exact rsuch_same k n s hs w
 ·exact rsuch_ne k z n s h w
theorem rcheck_head (o p : Int) (a : Option Addr) (n c : Nat) (s : ByteArray) (w : World) (h : headOk o p = false ∨ n ≠ s.size) :
  Calls Tryz.prog 104 #[.agg #[.int .i64 o, .int .i64 p, .slice a n c], .string s] w fun e w' => e = .returned (.int .i64 1) ∧ Below w.heap.size w w' := by
 have HB : Hid (Below w.heap.size w (w.alloc (.cells #[.int .i64 o, .int .i64 p, .slice a n c] 42))) := (Below.refl _ _).alloc (Nat.le_refl _) _
 by_cases h1 : o < 1
 ·clear h
  go_enter Tryz.func104, Tryz.ntmps104
  go_wp2
  go_ret
  exact ⟨rfl, HB.out⟩
 by_cases h2 : 4294967296 ≤ o
 ·clear h
  go_enter Tryz.func104, Tryz.ntmps104
  go_wp2
  go_ret
  exact ⟨rfl, HB.out⟩
 by_cases h3 : p < 0
 ·clear h
  go_enter Tryz.func104, Tryz.ntmps104
  go_wp2
  go_ret
  exact ⟨rfl, HB.out⟩
 by_cases h4 : 65535 < p
 ·clear h
  go_enter Tryz.func104, Tryz.ntmps104
  go_wp2
  go_ret
  exact ⟨rfl, HB.out⟩
 have hne : ((n : Int) != s.size) = true := by
  rcases h with h | h
  ·exfalso
   simp [headOk] at h
   omega
  ·exact ne_bne h
 clear h
 go_enter Tryz.func104, Tryz.ntmps104
 go_wp2
 go_ret
 exact ⟨rfl, HB.out⟩
theorem rcheck_loop (o p : Int) (a : Option Addr) (n c : Nat) (l : List AV) (s : ByteArray) (w : World) (hr : RdA w a n c l) (hm : Small l) (hn : n ≤ 1152921504606846976) (hh : headOk o p = true) (hs : n = s.size) :
  Calls Tryz.prog 104 #[.agg #[.int .i64 o, .int .i64 p, .slice a n c], .string s] w fun e w' => e = .returned (.int .i64 (noB (okArgs l s.data.toList) : Nat)) ∧ Below w.heap.size w w' := by
 have hh' : 1 ≤ o ∧ o ≤ 4294967295 ∧ 0 ≤ p ∧ p ≤ 65535 := by simpa [headOk] using hh
 obtain ⟨h1, h2, h3, h4⟩ := hh'
 have e1 : decide (o < 1) = false := decide_eq_false (by omega)
 have e2 : decide (4294967296 ≤ o) = false := decide_eq_false (by omega)
 have e3 : decide (p < 0) = false := decide_eq_false (by omega)
 have e4 : decide (65535 < p) = false := decide_eq_false (by omega)
 have hne : ((n : Int) != s.size) = false := by rw [bne_eq_false_iff_eq]; omega
 clear h1 h2 h3 h4
 have HS : Hid (n = s.size) := hs
 have HR : Hid (RdA w a n c l) := hr
 have HMM : Hid (Small l) := hm
 have hsn : s.size ≤ 1152921504606846976 := by omega
 have HB : Hid (Below w.heap.size w (w.alloc (.cells #[.int .i64 o, .int .i64 p, .slice a n c] 42))) := (Below.refl _ _).alloc (Nat.le_refl _) _
 have HX2 : Hid (∀ u, Below (w.alloc (.cells #[.int .i64 o, .int .i64 p, .slice a n c] 42)).heap.size (w.alloc (.cells #[.int .i64 o, .int .i64 p, .slice a n c] 42)) u → u.cell? ⟨w.heap.size, 2, none⟩ = some (.slice a n c)) := fun u hu => by rw [hu.cell (by simp)]; simp
 clear hh hr hs hm
 generalize hZ : okArgs l s.data.toList = Z
 have HZT : Hid ((∀ (t : Nat) (x : AV) (z : UInt8), t < n → l[t]? = some x → s.data.toList[t]? = some z → okArg x.k x.n x.t z.toNat = true) → Z = true) := fun h => by
  rw [← hZ]
  have hl := HR.out.len
  exact okArgs_all l s.data.toList (by rw [size_toList]; have := HS.out; omega) (fun i x z hi => h i x z (by omega))
 have HZF : Hid (∀ (j : Nat) (x : AV) (z : UInt8), l[j]? = some x → s.data.toList[j]? = some z → okArg x.k x.n x.t z.toNat = false → Z = false) := fun j x z hx hz h => by
  rw [← hZ]
  exact okArgs_not l _ j x z hx hz h
 clear hZ
 go_enter Tryz.func104, Tryz.ntmps104
 go_wp2
 generalize w.alloc (.cells #[.int .i64 o, .int .i64 p, .slice a n c] 42) = W at *
 go_loopw [5] (fun i wr => ∃ j : Nat, j ≤ n ∧ i = .int .i64 j ∧ (∀ (t : Nat) (x : AV) (z : UInt8), t < j → l[t]? = some x → s.data.toList[t]? = some z → okArg x.k x.n x.t z.toNat = true) ∧ Below W.heap.size W wr) (fun i _ => n - (RowKit.intOf i).toNat)
 case atStart => exact ⟨0, Nat.zero_le _, rfl, fun t x z ht => by omega, Below.refl _ _⟩
 case round =>
  obtain ⟨j, hj, rfl, hz, hbW⟩ := hrel
  have hb : Below w.heap.size w wr := Below.on HB.out hbW
  have HBW : Hid (Below W.heap.size W wr) := hbW
  have HZ : Hid (∀ (t : Nat) (x : AV) (z : UInt8), t < j → l[t]? = some x → s.data.toList[t]? = some z → okArg x.k x.n x.t z.toNat = true) := hz
  clear hz hbW
  by_cases hlt : j < n
  ·obtain ⟨b, off, rfl, hbs, hc⟩ := HR.out.plain (by omega)
   have hlen := HR.out.len
   obtain ⟨x, hx⟩ : ∃ x, l[j]? = some x := ⟨_, List.getElem?_eq_getElem (by omega)⟩
   obtain ⟨c0, c1, c2⟩ := hc j x hx
   have hxk := HMM.out x (List.mem_of_getElem? hx)
   have tf0 : ∀ u, Below wr.heap.size wr u → u.cell? ⟨b, off + j * 3, none⟩ = some (.int .u8 x.k) := fun u hu => by rw [(Below.on hb hu).cell (World.block_lt_of_cell? w _ c0)]; exact c0
   have tf1 : ∀ u, Below wr.heap.size wr u → u.cell? ⟨b, off + j * 3 + 1, none⟩ = some (.int .i64 x.n) := fun u hu => by rw [(Below.on hb hu).cell (World.block_lt_of_cell? w _ c1)]; exact c1
   have tf2 : ∀ u, Below wr.heap.size wr u → u.cell? ⟨b, off + j * 3 + 2, none⟩ = some (.string x.s) := fun u hu => by rw [(Below.on hb hu).cell (World.block_lt_of_cell? w _ c2)]; exact c2
   have tf3 : ∀ u, Below wr.heap.size wr u → u.cell? ⟨w.heap.size, 2, none⟩ = some (.slice (some ⟨b, off, none⟩) n c) := fun u hu => HX2.out u (HBW.out.trans (hu.mono HBW.out.size))
   have hjs : j < s.size := by have := HS.out; omega
   have HC : Hid (∀ u, Below wr.heap.size wr u → Calls Tryz.prog 163 #[.agg #[.int .u8 x.k, .int .i64 x.n, .string x.s], .int .u8 (s[j].toNat : Nat)] u fun e w' => e = .returned (.bool (okArg x.k x.n x.t s[j].toNat)) ∧ Below u.heap.size u w') := fun u _ => rsuch_any x.k s[j].toNat x.n x.s (by omega) u
   have HF : Hid (∀ u, Below wr.heap.size wr u → Below W.heap.size W u) := fun u hu => HBW.out.trans (hu.mono HBW.out.size)
   have HZ' : Hid (okArg x.k x.n x.t s[j].toNat = true → ∀ (t : Nat) (y : AV) (z : UInt8), t < j + 1 → l[t]? = some y → s.data.toList[t]? = some z → okArg y.k y.n y.t z.toNat = true) := fun hok t y z ht hy hz => by
    rcases Nat.lt_or_ge t j with h' | h'
    ·exact HZ.out t y z h' hy hz
    ·obtain rfl : t = j := by omega
     obtain rfl := Option.some.inj (hy.symm.trans hx)
     obtain rfl := Option.some.inj (hz.symm.trans (str_at s t hjs))
     exact hok
   have HN : Hid (okArg x.k x.n x.t s[j].toNat = false → Z = false) := fun hno => HZF.out j _ _ hx (str_at s j hjs) hno
   have hjn : (j : Int) < n := by omega
   clear hx hc hlen c0 c1 c2 hb HZ HZF HZT HX2 HBW HR HMM hbs hxk
   generalize hq : okArg x.k x.n x.t s[j].toNat = q at *
   clear hq
   go_wp2_with fail
   refine wp_region_held_drew (S := fun x => Below wr.heap.size wr x) (by kernel_rfl) (Below.refl _ _).drew (fun hHeld => ?_)
   have hHeld : Below wr.heap.size wr wr.drew := hHeld
   have bw : Below wr.heap.size wr wr.drew := (Below.refl _ _).drew
   refine wpAnyH_take (i := 0) (v := ?_) rfl (by kernel_rfl) (by kernel_rfl) (by kernel_rfl) (fun _ _ _ h => h) (Or.inl ⟨by kernel_rfl, ?hy0⟩) (by assumption) ?_
   case hy0 => (intro w hSw; (try dsimp only at hSw); go_simp; try with_reducible rfl)
   try simp only [Act.put, List.getElem_toArray, List.getElem_cons_zero, List.setIfInBounds_toArray, List.set_cons_zero, List.set_cons_succ]
   refine wpAnyH_take (i := 1) (v := ?_) rfl (by kernel_rfl) (by kernel_rfl) (by kernel_rfl) (fun _ _ _ h => h) (Or.inl ⟨by kernel_rfl, ?hy1⟩) (by assumption) ?_
   case hy1 => (intro w hSw; (try dsimp only at hSw); go_simp; try with_reducible rfl)
   try simp only [Act.put, List.getElem_toArray, List.getElem_cons_zero, List.getElem_cons_succ, List.setIfInBounds_toArray, List.set_cons_zero, List.set_cons_succ]
   refine wpAnyH_take (i := 2) (v := ?_) rfl (by kernel_rfl) (by kernel_rfl) (by kernel_rfl) (fun _ _ _ h => h) (Or.inl ⟨by kernel_rfl, ?hy2⟩) (by assumption) ?_
   case hy2 => (intro w hSw; (try dsimp only at hSw); go_simp; try with_reducible rfl)
   try simp only [Act.put, List.getElem_toArray, List.getElem_cons_zero, List.getElem_cons_succ, List.setIfInBounds_toArray, List.set_cons_zero, List.set_cons_succ]
   refine wpAnyH_take (i := 3) (v := ?_) rfl (by kernel_rfl) (by kernel_rfl) (by kernel_rfl) (fun _ _ _ h => h) (Or.inl ⟨by kernel_rfl, ?hy3⟩) (by assumption) ?_
   case hy3 => (intro w hSw; (try dsimp only at hSw); go_simp; try with_reducible rfl)
   try simp only [Act.put, List.getElem_toArray, List.getElem_cons_zero, List.getElem_cons_succ, List.setIfInBounds_toArray, List.set_cons_zero, List.set_cons_succ]
   refine wpAnyH_take (i := 4) (v := ?_) rfl (by kernel_rfl) (by kernel_rfl) (by kernel_rfl) (fun _ _ _ h => h) (Or.inl ⟨by kernel_rfl, ?hy4⟩) (by assumption) ?_
   case hy4 => (intro w hSw; (try dsimp only at hSw); go_simp; try with_reducible rfl)
   try simp only [Act.put, List.getElem_toArray, List.getElem_cons_zero, List.getElem_cons_succ, List.setIfInBounds_toArray, List.set_cons_zero, List.set_cons_succ]
   refine wpAnyH_take (i := 5) (v := ?_) rfl (by kernel_rfl) (by kernel_rfl) (by kernel_rfl) (fun _ _ _ h => h) (Or.inl ⟨by kernel_rfl, ?hy5⟩) (by assumption) ?_
   case hy5 => (intro w hSw; (try dsimp only at hSw); go_simp; try with_reducible rfl)
   try simp only [Act.put, List.getElem_toArray, List.getElem_cons_zero, List.getElem_cons_succ, List.setIfInBounds_toArray, List.set_cons_zero, List.set_cons_succ]
   refine wpAnyH_take (i := 6) (v := ?_) rfl (by kernel_rfl) (by kernel_rfl) (by kernel_rfl) (fun _ _ _ h => h) (Or.inl ⟨by kernel_rfl, ?hy6⟩) (by assumption) ?_
   case hy6 => (intro w hSw; (try dsimp only at hSw); go_simp; try with_reducible rfl)
   try simp only [Act.put, List.getElem_toArray, List.getElem_cons_zero, List.getElem_cons_succ, List.setIfInBounds_toArray, List.set_cons_zero, List.set_cons_succ]
   refine wpAnyH_take (i := 7) (v := ?_) rfl (by kernel_rfl) (by kernel_rfl) (by kernel_rfl) (fun _ _ _ h => h) (Or.inl ⟨by kernel_rfl, ?hy7⟩) (by assumption) ?_
   case hy7 => (intro w hSw; (try dsimp only at hSw); go_simp; try with_reducible rfl)
   try simp only [Act.put, List.getElem_toArray, List.getElem_cons_zero, List.getElem_cons_succ, List.setIfInBounds_toArray, List.set_cons_zero, List.set_cons_succ]
   refine wpAnyH_ready (rs := [8]) (by kernel_rfl) (by simp) ?_
   refine AllReadyH.cons rfl (fun K hK => ?_) AllReadyH.nil
   go_simp
   go_wp2_with fail
   refine (HC.out _ bw).mono ?_
   rintro e u8 ⟨rfl, hb⟩
   have hS' := Below.on hHeld hb
   refine hK.out _ _ hS' (fun _ => ?_)
   clear hK K
   refine wpAnyH_mono (S' := fun x => Below u8.heap.size u8 x) (fun x hx => Below.on hS' hx) ?_
   replace bw := Below.on bw hb
   clear hHeld hb hS'
   have hHeld : Below u8.heap.size u8 u8 := Below.refl _ _
   refine wpAnyH_take (i := 9) (v := ?_) rfl (by kernel_rfl) (by kernel_rfl) (by kernel_rfl) (fun _ _ _ h => h) (Or.inl ⟨by kernel_rfl, ?hy9⟩) (by assumption) ?_
   case hy9 => (intro w hSw; (try dsimp only at hSw); go_simp; try with_reducible rfl)
   try simp only [Act.put, List.getElem_toArray, List.getElem_cons_zero, List.getElem_cons_succ, List.setIfInBounds_toArray, List.set_cons_zero, List.set_cons_succ]
   refine wpAnyH_done (by kernel_rfl) ?_ _
   have hfin : Below W.heap.size W u8 := HF.out u8 bw
   clear tf0 tf1 tf2 tf3 HC HF bw hHeld
   cases q with
   | true =>
    go_wp2
    go_roundw
    case rel => exact ⟨j + 1, by omega, by go_num, HZ'.out (by simp), hfin⟩
    case measure => simp [RowKit.intOf]; omega
   | false =>
    go_wp2
    go_ret
    refine ⟨?_, Below.on HB.out hfin⟩
    rw [HN.out (by simp)]
    rfl
  ·have HQ : Hid (Z = true) := HZT.out (fun t x z ht => HZ.out t x z (by omega))
   have e5 : ¬ j < s.size := by have := HS.out; omega
   clear HZT HZF
   go_wp2
   go_ret
   refine ⟨?_, hb⟩
   rw [HQ.out]
   rfl
theorem rcheck_any (o p : Int) (a : Option Addr) (n c : Nat) (l : List AV) (s : ByteArray) (w : World) (hr : RdA w a n c l) (hm : Small l) (hn : n ≤ 1152921504606846976) :
  Calls Tryz.prog 104 #[.agg #[.int .i64 o, .int .i64 p, .slice a n c], .string s] w fun e w' => e = .returned (.int .i64 (noB (chk_WireB o p l s.data.toList) : Nat)) ∧ Below w.heap.size w w' := by
 by_cases h : headOk o p = true ∧ n = s.size
 ·rw [chk_WireB, h.1, Bool.true_and]
  exact rcheck_loop o p a n c l s w hr hm hn h.1 h.2
 ·have hbad : headOk o p = false ∨ n ≠ s.size := by
   cases hh : headOk o p with
   | false => exact .inl rfl
   | true => exact .inr fun e => h ⟨hh, e⟩
  have hc : chk_WireB o p l s.data.toList = false := by
   rw [chk_WireB]
   rcases hbad with hb | hb
   ·rw [hb, Bool.false_and]
   ·cases ho : okArgs l s.data.toList with
    | false => rw [Bool.and_false]
    | true => exact absurd ((hr.len.symm.trans (okArgs_length _ _ ho)).trans (size_toList s)) hb
  rw [hc]
  exact rcheck_head o p a n c s w hbad
end
section
theorem noNum : isNum 115 = false ∧ isNum 97 = false := by decide
theorem such_cases {k : Nat} {n : Int} {l : List UInt8} (h : suchB k n l = true) :
  (isNum k = true ∧ l = [] ∧ ((isSg k = true ∧ -2147483648 ≤ n ∧ n ≤ 2147483647) ∨ (isSg k = false ∧ 0 ≤ n ∧ n ≤ 4294967295))) ∨ (k = 115 ∧ n = 0 ∧ l.length ≤ 200 ∧ (0 : UInt8) ∉ l) ∨ (k = 97 ∧ n = 0 ∧ l.length ≤ 200) := by
 unfold suchB at h
 split at h
 ·rename_i hk
  simp at h
  refine .inl ⟨?_, h.1, .inl ⟨?_, h.2.1, h.2.2⟩⟩
  ·rcases hk with rfl | rfl <;> decide
  ·rcases hk with rfl | rfl <;> decide
 ·split at h
  ·rename_i hk
   simp at h
   subst hk
   exact .inl ⟨by decide, h.1, .inr ⟨by decide, by omega, h.2.2⟩⟩
  ·split at h
   ·rename_i hk
    simp at h
    refine .inl ⟨?_, h.1, .inr ⟨?_, h.2.1, h.2.2⟩⟩
    ·rcases hk with rfl | rfl <;> decide
    ·rcases hk with rfl | rfl <;> decide
   ·split at h
    ·rename_i hk
     simp at h
     exact .inr (.inl ⟨hk, h.1, h.2.1, h.2.2⟩)
    ·split at h
     ·rename_i hk
      simp at h
      exact .inr (.inr ⟨hk, h.1, h.2⟩)
     ·cases h
theorem num_ne {k : Nat} (h : isNum k = true) : k ≠ 115 ∧ k ≠ 97 := by
 constructor
 ·rintro rfl; simp [noNum] at h
 ·rintro rfl; simp [noNum] at h
theorem numZ_m32 {k : Nat} {n : Int} (h : (isSg k = true ∧ -2147483648 ≤ n ∧ n ≤ 2147483647) ∨ (isSg k = false ∧ 0 ≤ n ∧ n ≤ 4294967295)) : numZ k (m32 n) = n := by
 have hc := m32_cast n
 rcases h with ⟨h, h1, h2⟩ | ⟨h, h1, h2⟩
 ·rw [numZ, h, if_pos rfl, sgn]
  split <;> omega
 ·rw [numZ, h, if_neg (by decide)]
  omega
theorem av_eq {x : AV} {k : Nat} {n : Int} {l : List UInt8} (h1 : k = x.k) (h2 : n = x.n) (h3 : l = x.t) : (⟨k, n, ⟨l.toArray⟩⟩ : AV) = x := by
 subst h1 h2 h3
 obtain ⟨k', n', s'⟩ := x
 show (⟨k', n', ⟨s'.data.toList.toArray⟩⟩ : AV) = ⟨k', n', s'⟩
 simp
theorem arg_in (x : AV) (z : Nat) (h : okArg x.k x.n x.t z = true) (p r : List UInt8) :
  gaE (p ++ (pa x ++ r)) p.length z = 0 ∧ gaA (p ++ (pa x ++ r)) p.length z = x ∧ gaX (p ++ (pa x ++ r)) p.length z = p.length + (pa x).length := by
 rw [okArg, Bool.and_eq_true, decide_eq_true_eq] at h
 obtain ⟨rfl, hs⟩ := h
 have key : rdE (p ++ (pa x ++ r)) p.length x.k = 0 ∧ rdN (p ++ (pa x ++ r)) p.length x.k = x.n ∧ rdS (p ++ (pa x ++ r)) p.length x.k = x.t ∧ rdX (p ++ (pa x ++ r)) p.length x.k = p.length + (pa x).length := by
  rcases such_cases hs with ⟨hk, hl, hn⟩ | ⟨hk, hn, hl, h0⟩ | ⟨hk, hn, hl⟩
  ·obtain ⟨n1, n2⟩ := num_ne hk
   have hp : pa x = le4 (m32 x.n) := by rw [pa, if_neg n1, if_neg n2]
   rw [hp]
   have hlen : p.length + 4 ≤ (p ++ (le4 (m32 x.n) ++ r)).length := by rw [List.length_append, List.length_append]; simp [le4]
   refine ⟨?_, ?_, ?_, ?_⟩
   ·rw [rdE, hk, if_pos rfl]; exact getE_ok hlen
   ·rw [rdN, hk, if_pos rfl, getV_ok hlen, num4_at _ _ _ (m32_lt _), numZ_m32 hn]
   ·rw [rdS, hk, if_pos rfl, hl]
   ·rw [rdX, hk, if_pos rfl]; rfl
  ·have hp : pa x = putl (x.t ++ [0]) := by rw [pa, if_pos hk]
   rw [hp]
   obtain ⟨e1, e2, e3⟩ := txt_in p x.t r (by omega) h0
   rw [hk]
   exact ⟨e1, hn.symm, e2, e3⟩
  ·have hp : pa x = putl x.t := by rw [pa, if_neg (by omega), if_pos hk]
   rw [hp]
   obtain ⟨e1, e2, e3⟩ := lst_in p x.t r (by omega)
   rw [hk]
   exact ⟨e1, hn.symm, e2, e3⟩
 obtain ⟨k1, k2, k3, k4⟩ := key
 have e0 : gaE (p ++ (pa x ++ r)) p.length x.k = 0 := by rw [gaE, if_neg (by rw [k1]; decide), k2, k3, hs]; rfl
 exact ⟨e0, by rw [gaA, if_pos e0]; exact av_eq rfl k2 k3, by rw [gaX, if_pos e0, k4]⟩
theorem pas_cons (x : AV) (l : List AV) : pas (x :: l) = pa x ++ pas l := rfl
theorem gets_in : ∀ (l : List AV) (s : List UInt8), okArgs l s = true → ∀ p r, gets (p ++ (pas l ++ r)) p.length s = (0, l, p.length + (pas l).length)
 | [], [], _, p, r => by simp [gets, pas]
 | x :: l, z :: s, h, p, r => by
  rw [okArgs, Bool.and_eq_true] at h
  obtain ⟨e1, e2, e3⟩ := arg_in x z.toNat h.1 p (pas l ++ r)
  have ih := gets_in l s h.2 (p ++ pa x) r
  rw [List.append_assoc, List.length_append] at ih
  rw [pas_cons, List.append_assoc, gets, if_pos e1, e2, e3, ih, List.length_append]
  simp [Nat.add_assoc]
 | [], _ :: _, h, _, _ => by cases h
 | _ :: _, [], h, _, _ => by cases h
end
end Go.Proofs.YtpbgbpcdohdecaaGreatDoor
