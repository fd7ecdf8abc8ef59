/- The contract of the program's wire.Check. -/
import Derived.Test.YtoggnfadfocogaaDoorWireB
import Derived.Deep.RegionHeldLaw
namespace Go.Proofs.YtoggnfadfocogaaDoor
open Go Go.RowKit

theorem ne_bne {a b : Nat} (h : a ≠ b) : ((a : Int) != b) = true := by rw [bne_iff_ne]; omega

theorem check_head (o p : Int) (a : Option Addr) (n c : Nat) (s : ByteArray) (w : World) (v1 : Value) (hA : w.cell? ⟨2, 0, none⟩ = some v1) (h : headOk o p = false ∨ n ≠ s.size) :
    Calls Tryd.prog 20 #[.agg #[.int .i64 o, .int .i64 p, .slice a n c], .string s] w fun e w' => e = .returned v1 ∧ Below w.heap.size w w' := by
  have hl := World.block_lt_of_cell? w _ hA
  have HB : Hid (Below w.heap.size w (w.alloc (.cells #[.int .i64 o, .int .i64 p, .slice a n c] 24))) := (Below.refl _ _).alloc (Nat.le_refl _) _
  have hA2 : (w.alloc (.cells #[.int .i64 o, .int .i64 p, .slice a n c] 24)).cell? ⟨2, 0, none⟩ = some v1 := by rw [HB.out.cell hl]; exact hA
  by_cases h1 : o < 1
  · clear h
    go_enter Tryd.func20, Tryd.ntmps20
    go_wp2
    go_ret
    exact ⟨rfl, HB.out⟩
  by_cases h2 : 4294967295 < o
  · clear h
    go_enter Tryd.func20, Tryd.ntmps20
    go_wp2
    go_ret
    exact ⟨rfl, HB.out⟩
  by_cases h3 : p < 0
  · clear h
    go_enter Tryd.func20, Tryd.ntmps20
    go_wp2
    go_ret
    exact ⟨rfl, HB.out⟩
  by_cases h4 : 65535 < p
  · clear h
    go_enter Tryd.func20, Tryd.ntmps20
    go_wp2
    go_ret
    exact ⟨rfl, HB.out⟩
  have hne : ((n : Int) != s.size) = true := by
    rcases h with h | h
    · exfalso
      simp [headOk] at h
      omega
    · exact ne_bne h
  clear h
  go_enter Tryd.func20, Tryd.ntmps20
  go_wp2
  go_ret
  exact ⟨rfl, HB.out⟩

set_option maxRecDepth 100000 in
set_option maxHeartbeats 2000000 in
theorem check_loop (o p : Int) (a : Option Addr) (n c : Nat) (l : List AV) (s : ByteArray) (w : World) (hr : RdA w a n c l) (hm : Small l) (hn : n ≤ 1152921504606846976) (es : List Addr) (hA : w.cell? ⟨2, 0, none⟩ = some (erv es 1))
    (hh : headOk o p = true) (hs : n = s.size) :
    Calls Tryd.prog 20 #[.agg #[.int .i64 o, .int .i64 p, .slice a n c], .string s] w fun e w' => ∃ r, e = .returned r ∧ Er es r (noB (okArgs l s.data.toList)) ∧ Below w.heap.size w w' := by
  have hh' : 1 ≤ o ∧ o ≤ 4294967295 ∧ 0 ≤ p ∧ p ≤ 65535 := by simpa [headOk] using hh
  obtain ⟨h1, h2, h3, h4⟩ := hh'
  have e1 : decide (o < 1) = false := decide_eq_false (by omega)
  have e2 : decide (4294967295 < o) = false := decide_eq_false (by omega)
  have e3 : decide (p < 0) = false := decide_eq_false (by omega)
  have e4 : decide (65535 < p) = false := decide_eq_false (by omega)
  have hne : ((n : Int) != s.size) = false := by rw [bne_eq_false_iff_eq]; omega
  clear h1 h2 h3 h4
  have HS : Hid (n = s.size) := hs
  have HR : Hid (RdA w a n c l) := hr
  have HMM : Hid (Small l) := hm
  have HA : Hid (w.cell? ⟨2, 0, none⟩ = some (erv es 1)) := hA
  have HB : Hid (Below w.heap.size w (w.alloc (.cells #[.int .i64 o, .int .i64 p, .slice a n c] 24))) := (Below.refl _ _).alloc (Nat.le_refl _) _
  clear hh hr hA hs hm
  go_enter Tryd.func20, Tryd.ntmps20
  go_wp2
  generalize w.alloc (.cells #[.int .i64 o, .int .i64 p, .slice a n c] 24) = W at *
  go_loopw [38] (fun i wr => ∃ j : Nat, j ≤ n ∧ i = .int .i64 j ∧ (∀ (t : Nat) (x : AV) (z : UInt8), t < j → l[t]? = some x → s.data.toList[t]? = some z → okArg x.k x.n x.t z.toNat = true) ∧ Below w.heap.size w wr) (fun i _ => n - (intOf i).toNat)
  case atStart => exact ⟨0, Nat.zero_le _, rfl, fun t x z ht => by omega, HB.out⟩
  case round =>
    obtain ⟨j, hj, rfl, hz, hb⟩ := hrel
    have HZ : Hid (∀ (t : Nat) (x : AV) (z : UInt8), t < j → l[t]? = some x → s.data.toList[t]? = some z → okArg x.k x.n x.t z.toNat = true) := hz
    clear hz
    by_cases hlt : j < n
    · obtain ⟨b, off, rfl, hbs, hc⟩ := HR.out.plain (by omega)
      have hlen := HR.out.len
      obtain ⟨x, hx⟩ : ∃ x, l[j]? = some x := ⟨_, List.getElem?_eq_getElem (by omega)⟩
      obtain ⟨c0, c1, c2⟩ := hc j x hx
      have hxk := HMM.out x (List.mem_of_getElem? hx)
      rw [← hb.cell (World.block_lt_of_cell? w _ c0)] at c0
      rw [← hb.cell (World.block_lt_of_cell? w _ c1)] at c1
      rw [← hb.cell (World.block_lt_of_cell? w _ c2)] at c2
      have hjs : j < s.size := by have := HS.out; omega
      have HX : Hid (l[j]? = some x) := hx
      clear hx hlen hc
      obtain ⟨xk, xn, xs⟩ := x
      have hx3 : xs.size ≤ 140737488355328 := hxk
      have HE : Hid (∀ u, Below wr.heap.size wr u → Calls Tryd.prog 35 #[.agg #[.int .u8 xk, .int .i64 xn, .string xs], .int .u8 (s[j].toNat : Nat)] u fun e w' => e = .returned (erv es (if okArg xk xn xs.data.toList s[j].toNat then 0 else 1)) ∧ Below u.heap.size u w') := fun u hu => by
        have hbu : Below w.heap.size w u := hb.trans (hu.mono hb.size)
        refine checkArg_any xk xn xs (by omega) s[j].toNat u es ?_
        rw [hbu.cell (World.block_lt_of_cell? w _ HA.out)]
        exact HA.out
      have HV : Hid (∀ u, Below wr.heap.size wr u → Below w.heap.size w u) := fun u hu => hb.trans (hu.mono hb.size)
      have HZ' : Hid (okArg xk xn xs.data.toList s[j].toNat = true → ∀ (t : Nat) (x : AV) (z : UInt8), t < j + 1 → l[t]? = some x → s.data.toList[t]? = some z → okArg x.k x.n x.t z.toNat = true) := fun hok t x z ht hx hz => by
        rcases Nat.lt_or_ge t j with h' | h'
        · exact HZ.out t x z h' hx hz
        · obtain rfl : t = j := by omega
          obtain rfl := Option.some.inj (hx.symm.trans HX.out)
          obtain rfl := Option.some.inj (hz.symm.trans (str_at s t hjs))
          exact hok
      have HN : Hid (okArg xk xn xs.data.toList s[j].toNat = false → okArgs l s.data.toList = false) := fun hno => okArgs_not l _ j _ _ HX.out (str_at s j hjs) hno
      clear HZ HX HA HB HR HMM hbs hxk hx3
      go_wp2_with fail
      generalize hq : okArg xk xn xs.data.toList s[j].toNat = q at *
      clear hq
      have tf0 : ∀ u, Below (wr.alloc (.cells #[.int .u8 xk, .int .i64 xn, .string xs] 60)).heap.size (wr.alloc (.cells #[.int .u8 xk, .int .i64 xn, .string xs] 60)) u → u.cell? ⟨wr.heap.size, 0, none⟩ = some (.int .u8 xk) := fun u hu => by rw [hu.cell (by simp)]; simp
      have tf1 : ∀ u, Below (wr.alloc (.cells #[.int .u8 xk, .int .i64 xn, .string xs] 60)).heap.size (wr.alloc (.cells #[.int .u8 xk, .int .i64 xn, .string xs] 60)) u → u.cell? ⟨wr.heap.size, 1, none⟩ = some (.int .i64 xn) := fun u hu => by rw [hu.cell (by simp)]; simp
      have tf2 : ∀ u, Below (wr.alloc (.cells #[.int .u8 xk, .int .i64 xn, .string xs] 60)).heap.size (wr.alloc (.cells #[.int .u8 xk, .int .i64 xn, .string xs] 60)) u → u.cell? ⟨wr.heap.size, 2, none⟩ = some (.string xs) := fun u hu => by rw [hu.cell (by simp)]; simp
      have bV : Below wr.heap.size wr (wr.alloc (.cells #[.int .u8 xk, .int .i64 xn, .string xs] 60)) := (Below.refl _ _).alloc (Nat.le_refl _) _
      have HC : Hid (∀ u, Below (wr.alloc (.cells #[.int .u8 xk, .int .i64 xn, .string xs] 60)).heap.size (wr.alloc (.cells #[.int .u8 xk, .int .i64 xn, .string xs] 60)) u → Calls Tryd.prog 35 #[.agg #[.int .u8 xk, .int .i64 xn, .string xs], .int .u8 (s[j].toNat : Nat)] u fun e w' => e = .returned (erv es (if q then 0 else 1)) ∧ Below u.heap.size u w') := fun u hu => HE.out u (bV.trans (hu.mono bV.size))
      have HF : Hid (∀ u, Below (wr.alloc (.cells #[.int .u8 xk, .int .i64 xn, .string xs] 60)).heap.size (wr.alloc (.cells #[.int .u8 xk, .int .i64 xn, .string xs] 60)) u → Below w.heap.size w u) := fun u hu => HV.out u (bV.trans (hu.mono bV.size))
      clear HE HV bV c0 c1 c2
      generalize wr.alloc (.cells #[.int .u8 xk, .int .i64 xn, .string xs] 60) = V at *
      refine wp_region_held_drew (S := fun x => Below V.heap.size V x) (by kernel_rfl) (Below.refl _ _).drew (fun hHeld => ?_)
      have hHeld : Below V.heap.size V V.drew := hHeld
      have bw : Below V.heap.size V V.drew := (Below.refl _ _).drew
      refine wpAnyH_take (i := 0) (v := ?_) rfl (by kernel_rfl) (by kernel_rfl) (by kernel_rfl) (fun _ _ _ h => h) (Or.inl ⟨by kernel_rfl, ?hy0⟩) (by assumption) ?_
      case hy0 => (intro w hSw; (try dsimp only at hSw); go_simp; try with_reducible rfl)
      try simp only [Act.put, List.getElem_toArray, List.getElem_cons_zero, List.setIfInBounds_toArray, List.set_cons_zero, List.set_cons_succ]
      refine wpAnyH_take (i := 1) (v := ?_) rfl (by kernel_rfl) (by kernel_rfl) (by kernel_rfl) (fun _ _ _ h => h) (Or.inl ⟨by kernel_rfl, ?hy1⟩) (by assumption) ?_
      case hy1 => (intro w hSw; (try dsimp only at hSw); go_simp; try with_reducible rfl)
      try simp only [Act.put, List.getElem_toArray, List.getElem_cons_zero, List.getElem_cons_succ, List.setIfInBounds_toArray, List.set_cons_zero, List.set_cons_succ]
      refine wpAnyH_take (i := 2) (v := ?_) rfl (by kernel_rfl) (by kernel_rfl) (by kernel_rfl) (fun _ _ _ h => h) (Or.inl ⟨by kernel_rfl, ?hy2⟩) (by assumption) ?_
      case hy2 => (intro w hSw; (try dsimp only at hSw); go_simp; try with_reducible rfl)
      try simp only [Act.put, List.getElem_toArray, List.getElem_cons_zero, List.getElem_cons_succ, List.setIfInBounds_toArray, List.set_cons_zero, List.set_cons_succ]
      refine wpAnyH_take (i := 3) (v := ?_) rfl (by kernel_rfl) (by kernel_rfl) (by kernel_rfl) (fun _ _ _ h => h) (Or.inl ⟨by kernel_rfl, ?hy3⟩) (by assumption) ?_
      case hy3 => (intro w hSw; (try dsimp only at hSw); go_simp; try with_reducible rfl)
      try simp only [Act.put, List.getElem_toArray, List.getElem_cons_zero, List.getElem_cons_succ, List.setIfInBounds_toArray, List.set_cons_zero, List.set_cons_succ]
      refine wpAnyH_ready (rs := [4]) (by kernel_rfl) (by simp) ?_
      refine AllReadyH.cons rfl (fun K hK => ?_) AllReadyH.nil
      go_simp
      go_wp2_with fail
      refine (HC.out _ bw).mono ?_
      rintro e u4 ⟨rfl, hb⟩
      have hS' := Below.on hHeld hb
      refine hK.out _ _ hS' (fun _ => ?_)
      clear hK K
      refine wpAnyH_mono (S' := fun x => Below u4.heap.size u4 x) (fun x hx => Below.on hS' hx) ?_
      replace bw := Below.on bw hb
      clear hHeld hb hS'
      have hHeld : Below u4.heap.size u4 u4 := Below.refl _ _
      refine wpAnyH_take (i := 5) (v := ?_) rfl (by kernel_rfl) (by kernel_rfl) (by kernel_rfl) (fun _ _ _ h => h) (Or.inl ⟨by kernel_rfl, ?hy5⟩) (by assumption) ?_
      case hy5 => (intro w hSw; (try dsimp only at hSw); go_simp; try with_reducible rfl)
      try simp only [Act.put, List.getElem_toArray, List.getElem_cons_zero, List.getElem_cons_succ, List.setIfInBounds_toArray, List.set_cons_zero, List.set_cons_succ]
      refine wpAnyH_done (by kernel_rfl) ?_ _
      have hfin : Below w.heap.size w u4 := HF.out u4 bw
      clear tf0 tf1 tf2 HC HF bw hHeld
      have ez : erv es 0 = Value.nilIface := rfl
      have eo : erv es 1 = .iface 106 (.pointer (some (es.getD 0 ⟨0, 0, none⟩))) := rfl
      cases q with
      | true =>
        go_wp2
        go_roundw
        case rel => exact ⟨j + 1, by omega, by go_num, HZ'.out rfl, hfin⟩
        case measure => simp [intOf]; omega
      | false =>
        go_wp2
        go_ret
        refine ⟨_, rfl, ?_, hfin⟩
        rw [HN.out (by simp)]
        exact .inr ⟨by decide, j, rfl⟩
    · go_wp2
      go_ret
      refine ⟨_, rfl, ?_, hb⟩
      have hl := HR.out.len
      have hs := HS.out
      obtain rfl : j = n := by omega
      rw [okArgs_all l s.data.toList (by rw [size_toList]; omega) (fun i x z hi => HZ.out i x z (by omega))]
      exact .inl rfl

theorem check_any (o p : Int) (a : Option Addr) (n c : Nat) (l : List AV) (s : ByteArray) (w : World) (hr : RdA w a n c l) (hm : Small l) (hn : n ≤ 1152921504606846976) (es : List Addr) (hA : w.cell? ⟨2, 0, none⟩ = some (erv es 1)) :
    Calls Tryd.prog 20 #[.agg #[.int .i64 o, .int .i64 p, .slice a n c], .string s] w fun e w' => ∃ r, e = .returned r ∧ Er es r (noB (chk o p l s.data.toList)) ∧ Below w.heap.size w w' := by
  by_cases h : headOk o p = true ∧ n = s.size
  · rw [chk, h.1, Bool.true_and]
    exact check_loop o p a n c l s w hr hm hn es hA h.1 h.2
  · have hbad : headOk o p = false ∨ n ≠ s.size := by
      cases hh : headOk o p with
      | false => exact .inl rfl
      | true => exact .inr fun e => h ⟨hh, e⟩
    have hc : chk o p l s.data.toList = false := by
      rw [chk]
      rcases hbad with hb | hb
      · rw [hb, Bool.false_and]
      · cases ho : okArgs l s.data.toList with
        | false => rw [Bool.and_false]
        | true => exact absurd ((hr.len.symm.trans (okArgs_length _ _ ho)).trans (size_toList s)) hb
    rw [hc]
    refine (check_head o p a n c s w _ hA hbad).mono ?_
    rintro e w' ⟨rfl, hb⟩
    exact ⟨_, rfl, .inl rfl, hb⟩
end Go.Proofs.YtoggnfadfocogaaDoor
