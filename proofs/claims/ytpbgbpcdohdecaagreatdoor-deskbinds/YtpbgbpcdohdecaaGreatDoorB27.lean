/- Lemmas that the proof leans on. -/
import Derived.Test.YtpbgbpcdohdecaaGreatDoorB26
namespace Go.Proofs.YtpbgbpcdohdecaaGreatDoor
open Go Go.RowKit
set_option maxRecDepth 100000
set_option maxHeartbeats 2000000
section
theorem infoEvt : (Tryz.prog.info? 44).map (fun i => (i.zero, i.size, i.bytes)) = some (some (.agg #[.int .i64 0, .int .i64 0, .int .i64 0, .slice none 0 0]), 4, 48) := by kernel_rfl
theorem info_any {P : Program} {e : TypeId} {z : Value} {n m : Nat} (h : (P.info? e).map (fun i => (i.zero, i.size, i.bytes)) = some (some z, n, m)) : ∃ i, P.info? e = some i ∧ i.zero = some z ∧ i.size = n ∧ i.bytes = m := by
 cases hi : P.info? e with
 | none => rw [hi] at h; cases h
 | some i =>
  rw [hi] at h
  simp only [Option.map_some, Option.some.injEq, Prod.mk.injEq] at h
  exact ⟨i, rfl, h.1, h.2.1, h.2.2⟩
theorem own_cells {w : World} {base e size n : Nat} {v : Value} {xs : List Value} (h : w.ownsRow base e size v n xs) : ∃ x c, v = .slice x n c ∧ n ≤ c ∧ c ≤ 9223372036854775807 ∧ (0 < n → ∃ g, x = some ⟨g, 0, none⟩ ∧ base ≤ g ∧ g < w.heap.size ∧ v.ownBlock = some g ∧ ∀ j u, xs[j]? = some u → w.cell? ⟨g, j, none⟩ = some u) := by
 rcases h.2 with ⟨rfl, rfl⟩ | ⟨g, cap, cur, rfl, hb, hg, hn, hm, _, _⟩
 ·exact ⟨none, 0, rfl, Nat.le_refl _, by omega, fun h => absurd h (by omega)⟩
 ·simp only [maxLen] at hm
  refine ⟨some ⟨g, 0, none⟩, cap, rfl, hn, by omega, fun _ => ⟨g, rfl, hb, (Array.getElem?_eq_some_iff.1 hg).1, rfl, fun j u hu => ?_⟩⟩
  have := h.cells rfl j u hu
  rw [Go.WideShapes.add_plain, Nat.zero_add] at this
  exact this
section
variable {w0 w w1 wA w3 : World} {a : Ca} {i : Int} {ev : List Evt} {X : List Nat}
theorem tv_app {L : List (Evt × Slh)} {v v' : Value} (h0 : RowKit.Below w0.heap.size w0 w) (hq : w0.heap.size ≤ a.q) (hT : TvR w0 a i L v w) (hb : Below w.heap.size w wA) (e : Evt × Slh) (hr : RdA wA e.2.1 e.2.2.1 e.2.2.2 e.1.l) (hx : ∀ b ∈ abl e.2, w.heap.size ≤ b)
  (o3 : w3.ownsRow w0.heap.size 44 4 v' (L.length + 1) (L.flatMap evc ++ evc e)) (g3 : wA.grownBy w3 v.ownBlock) (a3 : v'.ownBlock = v.ownBlock ∨ v'.ownBlock = some wA.heap.size) : Nx (Tv w0 a i (L.map (·.1) ++ [e.1])) (tvb a L v) w (w3.setCell ⟨a.q, 4, none⟩ v') := by
 have hlq := (Array.getElem?_eq_some_iff.1 hT.var).1
 have hvl : ∀ k, v.ownBlock = some k → k < w.heap.size := fun k hk => (hT.row.lt k hk).2
 have hs := hb.size
 have kA : Kp (a.q :: v.ownBlock.toList) wA (w3.setCell ⟨a.q, 4, none⟩ v') := ((kp_of_grown g3).mono (fun k hk _ => List.mem_cons_of_mem _ hk)).set ⟨a.q, 4, none⟩ (List.mem_cons_self ..) v'
 have kw : Kp (a.q :: v.ownBlock.toList) w (w3.setCell ⟨a.q, 4, none⟩ v') := (kp_of_below hb _).trans kA (fun k hk _ => hk)
 have hnv' : v'.ownBlock ≠ some a.q := by
  rcases a3 with h | h
  ·rw [h]; exact hT.nv
  ·rw [h]; intro h'; have := Option.some.inj h'; omega
 have hvar : w3.heap[a.q]? = some (.cells (clv a i v) 84 (0, 0)) := by
  have := ((kp_of_below hb v.ownBlock.toList).trans (kp_of_grown g3) (fun k hk _ => hk)).var hT.var (fun hm => hT.nv (by simpa using hm))
  exact this
 have hL : ∀ b ∈ L.flatMap (fun e => abl e.2), b < w.heap.size := fun b hb => by
  obtain ⟨e', he', hb'⟩ := List.mem_flatMap.1 hb
  exact (hT.arg e' he').lowz hb'
 have hR : TvR w0 a i (L ++ [e]) v' (w3.setCell ⟨a.q, 4, none⟩ v') := by
  refine ⟨heap_setCell_same _ _ _ _ _ _ hvar, ?_, fun e' he' => ?_, fun b hb' => ?_, hnv'⟩
  ·have := ownsRow_set o3 ⟨a.q, 4, none⟩ hnv' v'
   simpa [List.flatMap_append] using this
  ·rcases List.mem_append.1 he' with he' | he'
   ·refine (hT.arg e' he').kpz kw (fun b hb' hm => ?_)
    obtain ⟨_, h2, h3⟩ := hT.old b (List.mem_flatMap.2 ⟨e', he', hb'⟩)
    rcases List.mem_cons.1 hm with h | h
    ·exact h2 h
    ·exact h3 (by simpa using h)
   ·obtain rfl := List.mem_singleton.1 he'
    refine hr.kpz kA (fun b hb' hm => ?_)
    have := hx b hb'
    rcases List.mem_cons.1 hm with h | h
    ·omega
    ·have := hvl b (by simpa using h)
     omega
  ·rw [List.flatMap_append] at hb'
   rcases List.mem_append.1 hb' with hb' | hb'
   ·obtain ⟨h1, h2, h3⟩ := hT.old b hb'
    refine ⟨h1, h2, ?_⟩
    rcases a3 with h | h
    ·rw [h]; exact h3
    ·rw [h]; intro h'; have := Option.some.inj h'; have := hL _ hb'; omega
   ·have hb2 : b ∈ abl e.2 := by simpa using hb'
    have h1 := hx b hb2
    have h2 := hr.lowz hb2
    have h3 := h0.size
    refine ⟨by omega, by omega, ?_⟩
    rcases a3 with h | h
    ·rw [h]; intro h'; have := hvl b h'; omega
    ·rw [h]; intro h'; have := Option.some.inj h'; omega
 refine ⟨tvb a (L ++ [e]) v', ⟨h0.trans (kw.below h0.size (fun k hk => ?_)), hq, L ++ [e], v', hR, by simp, rfl⟩, kw.mono (fun k hk _ => ?_), fun b hb' => ?_⟩
 ·rcases List.mem_cons.1 hk with rfl | h
  ·exact hq
  ·exact (hT.row.lt k (by simpa using h)).1
 ·rcases List.mem_cons.1 hk with rfl | h
  ·exact List.mem_cons_self ..
  ·exact List.mem_cons_of_mem _ (List.mem_append_left _ h)
 ·rw [tvb] at hb'
  rcases List.mem_cons.1 hb' with rfl | hb'
  ·exact .inl (List.mem_cons_self ..)
  ·rcases List.mem_append.1 hb' with hb' | hb'
   ·rcases a3 with h | h
    ·rw [h] at hb'
     exact .inl (List.mem_cons_of_mem _ (List.mem_append_left _ hb'))
    ·rw [h] at hb'
     simp only [Option.toList_some, List.mem_cons, List.not_mem_nil, or_false] at hb'
     exact .inr (by omega)
   ·rw [List.flatMap_append] at hb'
    rcases List.mem_append.1 hb' with hb' | hb'
    ·exact .inl (List.mem_cons_of_mem _ (List.mem_append_right _ hb'))
    ·exact .inr (hx b (by simpa using hb'))
theorem send_any (h : Tv w0 a i ev w X) (hb : Below w.heap.size w w1) (face o q : Int) (x : Option Addr) (n c : Nat) (l : List AV) (hr : RdA w1 x n c l) (hx : ∀ b ∈ abl (x, n, c), w.heap.size ≤ b) (hev : ev.length ≤ 4000000) :
  Calls Tryz.prog 103 #[ptz a.q, .int .i64 face, .int .i64 o, .int .i64 q, .slice x n c] w1 fun e w' => (∃ v, e = .returned v) ∧ Nx (Tv w0 a i (ev ++ [⟨face, o, q, l⟩])) X w w' := by
 obtain ⟨i0, hi, hz0, hz1, hz2⟩ := info_any infoEvt
 obtain ⟨h0, hq, L, v, hT, rfl, rfl⟩ := h
 rw [List.length_map] at hev
 obtain ⟨xv, cv, rfl, hv2, hv3, _⟩ := own_cells hT.row
 have hv1 := (kp_of_below hb []).var hT.var (by simp)
 have c4 : w1.cell? ⟨a.q, 4, none⟩ = some (.slice xv L.length cv) := by rw [Lib.cell_of_heap hv1]; rfl
 have lq : a.q < w1.heap.size := (Array.getElem?_eq_some_iff.1 hv1).1
 have hbA : Below w.heap.size w (w1.alloc (.cells #[.int .i64 face, .int .i64 o, .int .i64 q, .slice x n c] 44)) := hb.alloc hb.size _
 have HOW := hid ((ownsRow_below hT.row hb).alloc (.cells #[.int .i64 face, .int .i64 o, .int .i64 q, .slice x n c] 44))
 have HSR : Hid (Src Tryz.prog 4 37 (.slice (some ⟨w1.heap.size, 0, none⟩) 1 1) 1 [.int .i64 face, .int .i64 o, .int .i64 q, .slice x n c] (w1.alloc (.cells #[.int .i64 face, .int .i64 o, .int .i64 q, .slice x n c] 44))) :=
  Src.ofSlice (P := Tryz.prog) _ Tryz.underlying37 ⟨w1.heap.size, 0, none⟩ 1 1 [.int .i64 face, .int .i64 o, .int .i64 q, .slice x n c] rfl (fun q u hu => by
   match q, hu with
   | 0, hu => cases hu; simp [Addr.add]
   | 1, hu => cases hu; simp [Addr.add]
   | 2, hu => cases hu; simp [Addr.add]
   | 3, hu => cases hu; simp [Addr.add]
   | q + 4, hu => simp at hu) (by simp [Value.oneCell'])
 have HA : Hid (∀ v' w3, w3.ownsRow w0.heap.size 44 4 v' (L.length + 1) (L.flatMap evc ++ [.int .i64 face, .int .i64 o, .int .i64 q, .slice x n c]) → (w1.alloc (.cells #[.int .i64 face, .int .i64 o, .int .i64 q, .slice x n c] 44)).grownBy w3 (Value.slice xv L.length cv).ownBlock →
   (v'.ownBlock = (Value.slice xv L.length cv).ownBlock ∨ v'.ownBlock = some (w1.alloc (.cells #[.int .i64 face, .int .i64 o, .int .i64 q, .slice x n c] 44)).heap.size) → Nx (Tv w0 a i (L.map (·.1) ++ [⟨face, o, q, l⟩])) (tvb a L (.slice xv L.length cv)) w (w3.setCell ⟨a.q, 4, none⟩ v') ∧ w3.frozen? ⟨a.q, 4, none⟩ = false ∧ w3.cell? ⟨a.q, 4, none⟩ = some (.slice xv L.length cv)) := fun v' w3 o3 g3 a3 => by
  refine ⟨tv_app h0 hq hT hbA (⟨face, o, q, l⟩, (x, n, c)) (hr.kpz (kp_of_below ((Below.refl _ _).alloc (Nat.le_refl _) _) []) (by simp)) hx o3 g3 a3, ?_⟩
  have hv3 := (kp_of_grown g3).var ((kp_of_below hbA []).var hT.var (by simp)) (fun hm => hT.nv (by simpa using hm))
  exact ⟨Lib.frozen_of_heap hv3 4, by rw [Lib.cell_of_heap hv3]; rfl⟩
 have hsz2 : w0.heap.size ≤ (w1.alloc (.cells #[.int .i64 face, .int .i64 o, .int .i64 q, .slice x n c] 44)).heap.size := by rw [World.size_alloc]; have := hb.size; have := h0.size; omega
 clear hT hr hx hb hbA hv1 h0 hq
 go_enter Tryz.func103, Tryz.ntmps103
 go_wp2_with (at_builtin; refine wpList_append_own_at_LibD _ rfl (.tmp 14) (.tmp 21) 37 37 rfl w0.heap.size 44 i0 (.agg #[.int .i64 0, .int .i64 0, .int .i64 0, .slice none 0 0]) 4 48 Tryz.underlying37 hi hz0 hz1 hz2 rfl _ _ _ rfl HOW.out _ _ _ rfl HSR.out (by simp only [maxLen]; omega) (fits48 (by omega) (by decide)) hsz2 ?_; intro v3 w3 o3 g3 a3; obtain ⟨x3, c3, rfl, _⟩ := own_cells o3; obtain ⟨b1, b2, b3⟩ := HA.out _ _ o3 g3 a3; have HB := hid b1; clear o3 g3 a3 b1 HA HOW HSR)
 go_wp2
 go_end0
 exact ⟨⟨_, rfl⟩, HB.out⟩
end
end
section
theorem ne_bne {a b : Nat} (h : a ≠ b) : ((a : Int) != b) = true := by rw [bne_iff_ne]; omega
theorem check_head (o p : Int) (a : Option Addr) (n c : Nat) (s : ByteArray) (w : World) (v1 : Value) (hA : w.cell? ⟨2, 0, none⟩ = some v1) (h : headOk o p = false ∨ n ≠ s.size) :
  Calls Tryz.prog 73 #[.agg #[.int .i64 o, .int .i64 p, .slice a n c], .string s] w fun e w' => e = .returned v1 ∧ Below w.heap.size w w' := by
 have hl := World.block_lt_of_cell? w _ hA
 have HB : Hid (Below w.heap.size w (w.alloc (.cells #[.int .i64 o, .int .i64 p, .slice a n c] 42))) := (Below.refl _ _).alloc (Nat.le_refl _) _
 have hA2 : (w.alloc (.cells #[.int .i64 o, .int .i64 p, .slice a n c] 42)).cell? ⟨2, 0, none⟩ = some v1 := by rw [HB.out.cell hl]; exact hA
 by_cases h1 : o < 1
 ·clear h
  go_enter Tryz.func73, Tryz.ntmps73
  go_wp2
  go_ret
  exact ⟨rfl, HB.out⟩
 by_cases h2 : 4294967295 < o
 ·clear h
  go_enter Tryz.func73, Tryz.ntmps73
  go_wp2
  go_ret
  exact ⟨rfl, HB.out⟩
 by_cases h3 : p < 0
 ·clear h
  go_enter Tryz.func73, Tryz.ntmps73
  go_wp2
  go_ret
  exact ⟨rfl, HB.out⟩
 by_cases h4 : 65535 < p
 ·clear h
  go_enter Tryz.func73, Tryz.ntmps73
  go_wp2
  go_ret
  exact ⟨rfl, HB.out⟩
 have hne : ((n : Int) != s.size) = true := by
  rcases h with h | h
  ·exfalso
   simp [headOk] at h
   omega
  ·exact ne_bne h
 clear h
 go_enter Tryz.func73, Tryz.ntmps73
 go_wp2
 go_ret
 exact ⟨rfl, HB.out⟩
theorem check_loop (o p : Int) (a : Option Addr) (n c : Nat) (l : List AV) (s : ByteArray) (w : World) (hr : RdA w a n c l) (hm : Small l) (hn : n ≤ 1152921504606846976) (es : List Addr) (hA : w.cell? ⟨2, 0, none⟩ = some (erv es 1))
  (hh : headOk o p = true) (hs : n = s.size) :
  Calls Tryz.prog 73 #[.agg #[.int .i64 o, .int .i64 p, .slice a n c], .string s] w fun e w' => ∃ r, e = .returned r ∧ Er_WireB es r (noB (okArgs l s.data.toList)) ∧ Below w.heap.size w w' := by
 have hh' : 1 ≤ o ∧ o ≤ 4294967295 ∧ 0 ≤ p ∧ p ≤ 65535 := by simpa [headOk] using hh
 obtain ⟨h1, h2, h3, h4⟩ := hh'
 have e1 : decide (o < 1) = false := decide_eq_false (by omega)
 have e2 : decide (4294967295 < o) = false := decide_eq_false (by omega)
 have e3 : decide (p < 0) = false := decide_eq_false (by omega)
 have e4 : decide (65535 < p) = false := decide_eq_false (by omega)
 have hne : ((n : Int) != s.size) = false := by rw [bne_eq_false_iff_eq]; omega
 clear h1 h2 h3 h4
 have HS : Hid (n = s.size) := hs
 have HR : Hid (RdA w a n c l) := hr
 have HMM : Hid (Small l) := hm
 have HA : Hid (w.cell? ⟨2, 0, none⟩ = some (erv es 1)) := hA
 have HB : Hid (Below w.heap.size w (w.alloc (.cells #[.int .i64 o, .int .i64 p, .slice a n c] 42))) := (Below.refl _ _).alloc (Nat.le_refl _) _
 clear hh hr hA hs hm
 go_enter Tryz.func73, Tryz.ntmps73
 go_wp2
 generalize w.alloc (.cells #[.int .i64 o, .int .i64 p, .slice a n c] 42) = W at *
 go_loopw [38] (fun i wr => ∃ j : Nat, j ≤ n ∧ i = .int .i64 j ∧ (∀ (t : Nat) (x : AV) (z : UInt8), t < j → l[t]? = some x → s.data.toList[t]? = some z → okArg x.k x.n x.t z.toNat = true) ∧ Below w.heap.size w wr) (fun i _ => n - (RowKit.intOf i).toNat)
 case atStart => exact ⟨0, Nat.zero_le _, rfl, fun t x z ht => by omega, HB.out⟩
 case round =>
  obtain ⟨j, hj, rfl, hz, hb⟩ := hrel
  have HZ : Hid (∀ (t : Nat) (x : AV) (z : UInt8), t < j → l[t]? = some x → s.data.toList[t]? = some z → okArg x.k x.n x.t z.toNat = true) := hz
  clear hz
  by_cases hlt : j < n
  ·obtain ⟨b, off, rfl, hbs, hc⟩ := HR.out.plain (by omega)
   have hlen := HR.out.len
   obtain ⟨x, hx⟩ : ∃ x, l[j]? = some x := ⟨_, List.getElem?_eq_getElem (by omega)⟩
   obtain ⟨c0, c1, c2⟩ := hc j x hx
   have hxk := HMM.out x (List.mem_of_getElem? hx)
   rw [← hb.cell (World.block_lt_of_cell? w _ c0)] at c0
   rw [← hb.cell (World.block_lt_of_cell? w _ c1)] at c1
   rw [← hb.cell (World.block_lt_of_cell? w _ c2)] at c2
   have hjs : j < s.size := by have := HS.out; omega
   have HX : Hid (l[j]? = some x) := hx
   clear hx hlen hc
   obtain ⟨xk, xn, xs⟩ := x
   have hx3 : xs.size ≤ 140737488355328 := hxk
   have HE : Hid (∀ u, Below wr.heap.size wr u → Calls Tryz.prog 116 #[.agg #[.int .u8 xk, .int .i64 xn, .string xs], .int .u8 (s[j].toNat : Nat)] u fun e w' => e = .returned (erv es (if okArg xk xn xs.data.toList s[j].toNat then 0 else 1)) ∧ Below u.heap.size u w') := fun u hu => by
    have hbu : Below w.heap.size w u := hb.trans (hu.mono hb.size)
    refine checkArg_any xk xn xs (by omega) s[j].toNat u es ?_
    rw [hbu.cell (World.block_lt_of_cell? w _ HA.out)]
    exact HA.out
   have HV : Hid (∀ u, Below wr.heap.size wr u → Below w.heap.size w u) := fun u hu => hb.trans (hu.mono hb.size)
   have HZ' : Hid (okArg xk xn xs.data.toList s[j].toNat = true → ∀ (t : Nat) (x : AV) (z : UInt8), t < j + 1 → l[t]? = some x → s.data.toList[t]? = some z → okArg x.k x.n x.t z.toNat = true) := fun hok t x z ht hx hz => by
    rcases Nat.lt_or_ge t j with h' | h'
    ·exact HZ.out t x z h' hx hz
    ·obtain rfl : t = j := by omega
     obtain rfl := Option.some.inj (hx.symm.trans HX.out)
     obtain rfl := Option.some.inj (hz.symm.trans (str_at s t hjs))
     exact hok
   have HN : Hid (okArg xk xn xs.data.toList s[j].toNat = false → okArgs l s.data.toList = false) := fun hno => okArgs_not l _ j _ _ HX.out (str_at s j hjs) hno
   clear HZ HX HA HB HR HMM hbs hxk hx3
   go_wp2_with fail
   generalize hq : okArg xk xn xs.data.toList s[j].toNat = q at *
   clear hq
   have tf0 : ∀ u, Below (wr.alloc (.cells #[.int .u8 xk, .int .i64 xn, .string xs] 34)).heap.size (wr.alloc (.cells #[.int .u8 xk, .int .i64 xn, .string xs] 34)) u → u.cell? ⟨wr.heap.size, 0, none⟩ = some (.int .u8 xk) := fun u hu => by rw [hu.cell (by simp)]; simp
   have tf1 : ∀ u, Below (wr.alloc (.cells #[.int .u8 xk, .int .i64 xn, .string xs] 34)).heap.size (wr.alloc (.cells #[.int .u8 xk, .int .i64 xn, .string xs] 34)) u → u.cell? ⟨wr.heap.size, 1, none⟩ = some (.int .i64 xn) := fun u hu => by rw [hu.cell (by simp)]; simp
   have tf2 : ∀ u, Below (wr.alloc (.cells #[.int .u8 xk, .int .i64 xn, .string xs] 34)).heap.size (wr.alloc (.cells #[.int .u8 xk, .int .i64 xn, .string xs] 34)) u → u.cell? ⟨wr.heap.size, 2, none⟩ = some (.string xs) := fun u hu => by rw [hu.cell (by simp)]; simp
   have bV : Below wr.heap.size wr (wr.alloc (.cells #[.int .u8 xk, .int .i64 xn, .string xs] 34)) := (Below.refl _ _).alloc (Nat.le_refl _) _
   have HC : Hid (∀ u, Below (wr.alloc (.cells #[.int .u8 xk, .int .i64 xn, .string xs] 34)).heap.size (wr.alloc (.cells #[.int .u8 xk, .int .i64 xn, .string xs] 34)) u → Calls Tryz.prog 116 #[.agg #[.int .u8 xk, .int .i64 xn, .string xs], .int .u8 (s[j].toNat : Nat)] u fun e w' => e = .returned (erv es (if q then 0 else 1)) ∧ Below u.heap.size u w') := fun u hu => HE.out u (bV.trans (hu.mono bV.size))
   have HF : Hid (∀ u, Below (wr.alloc (.cells #[.int .u8 xk, .int .i64 xn, .string xs] 34)).heap.size (wr.alloc (.cells #[.int .u8 xk, .int .i64 xn, .string xs] 34)) u → Below w.heap.size w u) := fun u hu => HV.out u (bV.trans (hu.mono bV.size))
   clear HE HV bV c0 c1 c2
   generalize wr.alloc (.cells #[.int .u8 xk, .int .i64 xn, .string xs] 34) = V at *
   refine wp_region_held_drew (S := fun x => Below V.heap.size V x) (by kernel_rfl) (Below.refl _ _).drew (fun hHeld => ?_)
   have hHeld : Below V.heap.size V V.drew := hHeld
   have bw : Below V.heap.size V V.drew := (Below.refl _ _).drew
   refine wpAnyH_take (i := 0) (v := ?_) rfl (by kernel_rfl) (by kernel_rfl) (by kernel_rfl) (fun _ _ _ h => h) (Or.inl ⟨by kernel_rfl, ?hy0⟩) (by assumption) ?_
   case hy0 => (intro w hSw; (try dsimp only at hSw); go_simp; try with_reducible rfl)
   try simp only [Act.put, List.getElem_toArray, List.getElem_cons_zero, List.setIfInBounds_toArray, List.set_cons_zero, List.set_cons_succ]
   refine wpAnyH_take (i := 1) (v := ?_) rfl (by kernel_rfl) (by kernel_rfl) (by kernel_rfl) (fun _ _ _ h => h) (Or.inl ⟨by kernel_rfl, ?hy1⟩) (by assumption) ?_
   case hy1 => (intro w hSw; (try dsimp only at hSw); go_simp; try with_reducible rfl)
   try simp only [Act.put, List.getElem_toArray, List.getElem_cons_zero, List.getElem_cons_succ, List.setIfInBounds_toArray, List.set_cons_zero, List.set_cons_succ]
   refine wpAnyH_take (i := 2) (v := ?_) rfl (by kernel_rfl) (by kernel_rfl) (by kernel_rfl) (fun _ _ _ h => h) (Or.inl ⟨by kernel_rfl, ?hy2⟩) (by assumption) ?_
   case hy2 => (intro w hSw; (try dsimp only at hSw); go_simp; try with_reducible rfl)
   try simp only [Act.put, List.getElem_toArray, List.getElem_cons_zero, List.getElem_cons_succ, List.setIfInBounds_toArray, List.set_cons_zero, List.set_cons_succ]
   refine wpAnyH_take (i := 3) (v := ?_) rfl (by kernel_rfl) (by kernel_rfl) (by kernel_rfl) (fun _ _ _ h => h) (Or.inl ⟨by kernel_rfl, ?hy3⟩) (by assumption) ?_
   case hy3 => (intro w hSw; (try dsimp only at hSw); go_simp; try with_reducible rfl)
   try simp only [Act.put, List.getElem_toArray, List.getElem_cons_zero, List.getElem_cons_succ, List.setIfInBounds_toArray, List.set_cons_zero, List.set_cons_succ]
   refine wpAnyH_ready (rs := [4]) (by kernel_rfl) (by simp) ?_
   refine AllReadyH.cons rfl (fun K hK => ?_) AllReadyH.nil
   go_simp
   go_wp2_with fail
   refine (HC.out _ bw).mono ?_
   rintro e u4 ⟨rfl, hb⟩
   have hS' := Below.on hHeld hb
   refine hK.out _ _ hS' (fun _ => ?_)
   clear hK K
   refine wpAnyH_mono (S' := fun x => Below u4.heap.size u4 x) (fun x hx => Below.on hS' hx) ?_
   replace bw := Below.on bw hb
   clear hHeld hb hS'
   have hHeld : Below u4.heap.size u4 u4 := Below.refl _ _
   refine wpAnyH_take (i := 5) (v := ?_) rfl (by kernel_rfl) (by kernel_rfl) (by kernel_rfl) (fun _ _ _ h => h) (Or.inl ⟨by kernel_rfl, ?hy5⟩) (by assumption) ?_
   case hy5 => (intro w hSw; (try dsimp only at hSw); go_simp; try with_reducible rfl)
   try simp only [Act.put, List.getElem_toArray, List.getElem_cons_zero, List.getElem_cons_succ, List.setIfInBounds_toArray, List.set_cons_zero, List.set_cons_succ]
   refine wpAnyH_done (by kernel_rfl) ?_ _
   have hfin : Below w.heap.size w u4 := HF.out u4 bw
   clear tf0 tf1 tf2 HC HF bw hHeld
   have ez : erv es 0 = Value.nilIface := rfl
   have eo : erv es 1 = .iface 392 (.pointer (some (es.getD 0 ⟨0, 0, none⟩))) := rfl
   cases q with
   | true =>
    go_wp2
    go_roundw
    case rel => exact ⟨j + 1, by omega, by go_num, HZ'.out rfl, hfin⟩
    case measure => simp [RowKit.intOf]; omega
   | false =>
    go_wp2
    go_ret
    refine ⟨_, rfl, ?_, hfin⟩
    rw [HN.out (by simp)]
    exact .inr ⟨by decide, j, rfl⟩
  ·go_wp2
   go_ret
   refine ⟨_, rfl, ?_, hb⟩
   have hl := HR.out.len
   have hs := HS.out
   obtain rfl : j = n := by omega
   rw [okArgs_all l s.data.toList (by rw [size_toList]; omega) (fun i x z hi => HZ.out i x z (by omega))]
   exact .inl rfl
theorem check_any_WireC (o p : Int) (a : Option Addr) (n c : Nat) (l : List AV) (s : ByteArray) (w : World) (hr : RdA w a n c l) (hm : Small l) (hn : n ≤ 1152921504606846976) (es : List Addr) (hA : w.cell? ⟨2, 0, none⟩ = some (erv es 1)) :
  Calls Tryz.prog 73 #[.agg #[.int .i64 o, .int .i64 p, .slice a n c], .string s] w fun e w' => ∃ r, e = .returned r ∧ Er_WireB es r (noB (chk_WireB o p l s.data.toList)) ∧ Below w.heap.size w w' := by
 by_cases h : headOk o p = true ∧ n = s.size
 ·rw [chk_WireB, h.1, Bool.true_and]
  exact check_loop o p a n c l s w hr hm hn es hA h.1 h.2
 ·have hbad : headOk o p = false ∨ n ≠ s.size := by
   cases hh : headOk o p with
   | false => exact .inl rfl
   | true => exact .inr fun e => h ⟨hh, e⟩
  have hc : chk_WireB o p l s.data.toList = false := by
   rw [chk_WireB]
   rcases hbad with hb | hb
   ·rw [hb, Bool.false_and]
   ·cases ho : okArgs l s.data.toList with
    | false => rw [Bool.and_false]
    | true => exact absurd ((hr.len.symm.trans (okArgs_length _ _ ho)).trans (size_toList s)) hb
  rw [hc]
  refine (check_head o p a n c s w _ hA hbad).mono ?_
  rintro e w' ⟨rfl, hb⟩
  exact ⟨_, rfl, .inl rfl, hb⟩
end
section
def m32 (n : Int) : Nat := (n % 4294967296).toNat
theorem m32_lt (n : Int) : m32 n < 4294967296 := by unfold m32; omega
theorem m32_cast (n : Int) : ((m32 n : Nat) : Int) = n % 4294967296 := by unfold m32; omega
def pa (x : AV) : List UInt8 := if x.k = 115 then putl (x.t ++ [0]) else if x.k = 97 then putl x.t else le4 (m32 x.n)
def pas (l : List AV) : List UInt8 := l.flatMap pa
theorem pas_append (a b : List AV) : pas (a ++ b) = pas a ++ pas b := by simp [pas]
theorem pa_le (x : AV) (h : x.s.size ≤ 99999) : (pa x).length ≤ 100010 := by
 have := size_toList x.s
 unfold pa
 split
 ·rw [putl_length, List.length_append, AV.t, this]; simp; omega
 ·split
  ·rw [putl_length, AV.t, this]; omega
  ·simp [le4]
end
section
theorem such_small {k : Nat} {n : Int} {l : List UInt8} (h : suchB k n l = true) : l.length ≤ 200 := by
 unfold suchB at h
 split at h
 ·simp at h; rw [h.1]; decide
 ·split at h
  ·simp at h; rw [h.1]; decide
  ·split at h
   ·simp at h; rw [h.1]; decide
   ·split at h
    ·simp at h; omega
    ·split at h
     ·simp at h; omega
     ·cases h
theorem okArgs_small : ∀ (l : List AV) (s : List UInt8), okArgs l s = true → ∀ x ∈ l, x.s.size ≤ 200
 | [], _, _, x, hx => by cases hx
 | y :: l, [], h, x, hx => by cases h
 | y :: l, z :: s, h, x, hx => by
  rw [okArgs, Bool.and_eq_true] at h
  rcases List.mem_cons.1 hx with rfl | hx
  ·have h1 := h.1
   rw [okArg, Bool.and_eq_true] at h1
   have := such_small h1.2
   rw [AV.t, size_toList] at this
   exact this
  ·exact okArgs_small l s h.2 x hx
theorem pas_take (l : List AV) (j : Nat) (x : AV) (h : l[j]? = some x) : pas (l.take (j + 1)) = pas (l.take j) ++ pa x := by
 rw [List.take_add_one, h, pas_append]
 simp [pas]
def putE_WireE (o p : Int) (l : List AV) (s : List UInt8) : Nat := if chk_WireB o p l s then (if 4088 < (pas l).length then 4 else 0) else 1
def putB (o p : Int) (l : List AV) : List UInt8 := le4 (m32 o) ++ (le4 ((8 + (pas l).length) * 65536 + p.toNat) ++ pas l)
def PutIs (base : Nat) (w : World) (E : Nat) (b : List UInt8) (v : Value) : Prop := (E = 0 → w.ownsRow base 5 1 v b.length (bc b)) ∧ (E ≠ 0 → v = .slice none 0 0)
end
section
theorem num4_lt_WireF (l : List UInt8) (i : Nat) : num4 l i < 4294967296 := by
 have h : ∀ x : UInt8, x.toNat < 256 := fun x => x.toNat_lt
 have h0 := h (l.getD i 0)
 have h1 := h (l.getD (i + 1) 0)
 have h2 := h (l.getD (i + 2) 0)
 have h3 := h (l.getD (i + 3) 0)
 unfold num4
 omega
theorem rd_low_WireF {w : World} {a : Option Addr} {n c : Nat} {l : List UInt8} (h : Rd w a n c l) : ∀ x, a = some x → 0 < l.length → x.block < w.heap.size := fun x hx hl => by
 have hl' := h.len
 obtain ⟨b, off, rfl, hb, _⟩ := h.plain (by omega)
 cases hx
 exact hb
end
end Go.Proofs.YtpbgbpcdohdecaaGreatDoor
