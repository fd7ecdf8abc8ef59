/- The library's slices.Sort, slices.Compact and slices.Equal at int, as this program bears them (laid by the kit's own tool, in plain words). -/
import Derived.Shelf.SortM.Plain
import Derived.Shelf.SortM.SortNone
import Derived.Shelf.SlicesG.CompactI
import Derived.Shelf.SlicesG.Equal
import Derived.Test.YtmiapccngeafkaaDoorProg
import Derived.Test.YtmiapccngeafkaaDoorBc
import Derived.Lib.OwnBridge
import Derived.Sort.OwnSortedInts
namespace Go.Proofs.YtmiapccngeafkaaDoor
open Go Go.RowKit Go.Sort Go.Shelf

def sortA_ren : Go.Shelf.Ren := ⟨fun | 5 => 78 | 8 => 83 | 7 => 82 | 19 => 93 | 20 => 94 | 10 => 84 | 11 => 85 | 12 => 86 | 13 => 87 | 14 => 88 | 15 => 89 | 16 => 90 | 17 => 91 | 18 => 92 | 30 => 95 | 31 => 96 | 32 => 97 | 33 => 98 | 34 => 99 | 35 => 100 | 40 => 101 | n => n, fun | 23 => 99 | 25 => 3 | 3 => 3 | 32 => 91 | 22 => 99 | 0 => 0 | 44 => 22 | 46 => 81 | 4 => 4 | 36 => 117 | 35 => 116 | 41 => 122 | 5 => 5 | 9 => 9 | 53 => 126 | 57 => 130 | 63 => 132 | 64 => 57 | n => n, fun | n => n⟩
theorem sortA : Go.Proofs.SlLaysM.n5 Tryd.prog sortA_ren := {
  mixed := by kernel_rfl
  f5 := ⟨Tryd.f78.name, by decide, Tryd.func78.trans (congrArg some (by kernel_rfl))⟩
  f7 := ⟨Tryd.f82.name, by decide, Tryd.func82.trans (congrArg some (by kernel_rfl))⟩
  f8 := Tryd.func83.trans (congrArg some (by kernel_rfl))
  f10 := ⟨Tryd.f84.name, by decide, Tryd.func84.trans (congrArg some (by kernel_rfl))⟩
  f11 := ⟨Tryd.f85.name, by decide, Tryd.func85.trans (congrArg some (by kernel_rfl))⟩
  f12 := ⟨Tryd.f86.name, by decide, Tryd.func86.trans (congrArg some (by kernel_rfl))⟩
  f13 := ⟨Tryd.f87.name, by decide, Tryd.func87.trans (congrArg some (by kernel_rfl))⟩
  f14 := ⟨Tryd.f88.name, by decide, Tryd.func88.trans (congrArg some (by kernel_rfl))⟩
  f15 := ⟨Tryd.f89.name, by decide, Tryd.func89.trans (congrArg some (by kernel_rfl))⟩
  f16 := ⟨Tryd.f90.name, by decide, Tryd.func90.trans (congrArg some (by kernel_rfl))⟩
  f17 := ⟨Tryd.f91.name, by decide, Tryd.func91.trans (congrArg some (by kernel_rfl))⟩
  f18 := ⟨Tryd.f92.name, by decide, Tryd.func92.trans (congrArg some (by kernel_rfl))⟩
  f19 := Tryd.func93.trans (congrArg some (by kernel_rfl))
  f20 := Tryd.func94.trans (congrArg some (by kernel_rfl))
  f30 := ⟨Tryd.f95.name, by decide, Tryd.func95.trans (congrArg some (by kernel_rfl))⟩
  f31 := Tryd.func96.trans (congrArg some (by kernel_rfl))
  f32 := Tryd.func97.trans (congrArg some (by kernel_rfl))
  f33 := ⟨Tryd.f98.name, by decide, Tryd.func98.trans (congrArg some (by kernel_rfl))⟩
  f34 := ⟨Tryd.f99.name, by decide, Tryd.func99.trans (congrArg some (by kernel_rfl))⟩
  f35 := ⟨Tryd.f100.name, by decide, Tryd.func100.trans (congrArg some (by kernel_rfl))⟩
  f40 := ⟨Tryd.f101.name, by decide, Tryd.func101.trans (congrArg some (by kernel_rfl))⟩
  t0 := Tryd.underlying0
  a0 := Tryd.isAgg0
  z0 := Tryd.sizeOf0
  v0 := Tryd.zeroValue0
  t3 := Tryd.underlying3
  a3 := Tryd.isAgg3
  z3 := Tryd.sizeOf3
  v3 := Tryd.zeroValue3
  t4 := Tryd.underlying4
  a4 := Tryd.isAgg4
  z4 := Tryd.sizeOf4
  v4 := Tryd.zeroValue4
  t5 := Tryd.underlying5
  a5 := Tryd.isAgg5
  z5 := Tryd.sizeOf5
  v5 := Tryd.zeroValue5
  t9 := Tryd.underlying9
  a9 := Tryd.isAgg9
  z9 := Tryd.sizeOf9
  v9 := Tryd.zeroValue9
  t22 := Tryd.underlying99
  a22 := Tryd.isAgg99
  z22 := Tryd.sizeOf99
  v22 := Tryd.zeroValue99
  t23 := Tryd.underlying99
  a23 := Tryd.isAgg99
  z23 := Tryd.sizeOf99
  v23 := Tryd.zeroValue99
  t25 := Tryd.underlying3
  a25 := Tryd.isAgg3
  z25 := Tryd.sizeOf3
  v25 := Tryd.zeroValue3
  t32 := Tryd.underlying91
  a32 := Tryd.isAgg91
  z32 := Tryd.sizeOf91
  v32 := Tryd.zeroValue91
  t35 := Tryd.underlying116
  a35 := Tryd.isAgg116
  z35 := Tryd.sizeOf116
  v35 := Tryd.zeroValue116
  t36 := Tryd.underlying117
  a36 := Tryd.isAgg117
  z36 := Tryd.sizeOf117
  v36 := Tryd.zeroValue117
  t41 := Tryd.underlying122
  a41 := Tryd.isAgg122
  z41 := Tryd.sizeOf122
  v41 := Tryd.zeroValue122
  t44 := Tryd.underlying22
  a44 := Tryd.isAgg22
  z44 := Tryd.sizeOf22
  v44 := Tryd.zeroValue22
  t46 := Tryd.underlying81
  a46 := Tryd.isAgg81
  z46 := Tryd.sizeOf81
  v46 := Tryd.zeroValue81
  t53 := Tryd.underlying126
  a53 := Tryd.isAgg126
  z53 := Tryd.sizeOf126
  v53 := Tryd.zeroValue126
  t57 := Tryd.underlying130
  a57 := Tryd.isAgg130
  z57 := Tryd.sizeOf130
  v57 := Tryd.zeroValue130
  t63 := Tryd.underlying132
  a63 := Tryd.isAgg132
  z63 := Tryd.sizeOf132
  v63 := Tryd.zeroValue132
  t64 := Tryd.underlying57
  a64 := Tryd.isAgg57
  z64 := Tryd.sizeOf57
  v64 := Tryd.zeroValue57 }

def compA_ren : Go.Shelf.Ren := ⟨fun | 43 => 79 | n => n, fun | 22 => 99 | 23 => 3 | 3 => 3 | 4 => 4 | 0 => 0 | n => n, fun | n => n⟩
theorem compA : Go.Proofs.SlLaysN.n43 Tryd.prog compA_ren := {
  mixed := by kernel_rfl
  f43 := ⟨Tryd.f79.name, by decide, Tryd.func79.trans (congrArg some (by kernel_rfl))⟩
  t0 := Tryd.underlying0
  a0 := Tryd.isAgg0
  z0 := Tryd.sizeOf0
  v0 := Tryd.zeroValue0
  t3 := Tryd.underlying3
  a3 := Tryd.isAgg3
  z3 := Tryd.sizeOf3
  v3 := Tryd.zeroValue3
  t4 := Tryd.underlying4
  a4 := Tryd.isAgg4
  z4 := Tryd.sizeOf4
  v4 := Tryd.zeroValue4
  t22 := Tryd.underlying99
  a22 := Tryd.isAgg99
  z22 := Tryd.sizeOf99
  v22 := Tryd.zeroValue99
  t23 := Tryd.underlying3
  a23 := Tryd.isAgg3
  z23 := Tryd.sizeOf3
  v23 := Tryd.zeroValue3
  i23 := by kernel_rfl }
def eqA_ren : Go.Shelf.Ren := ⟨fun | 33 => 71 | n => n, fun | 22 => 99 | 23 => 3 | 4 => 4 | 3 => 3 | 0 => 0 | n => n, fun | n => n⟩
theorem eqA : Go.Proofs.SlLaysN.n33 Tryd.prog eqA_ren := {
  mixed := by kernel_rfl
  f33 := ⟨Tryd.f71.name, by decide, Tryd.func71.trans (congrArg some (by kernel_rfl))⟩
  t0 := Tryd.underlying0
  a0 := Tryd.isAgg0
  z0 := Tryd.sizeOf0
  v0 := Tryd.zeroValue0
  t3 := Tryd.underlying3
  a3 := Tryd.isAgg3
  z3 := Tryd.sizeOf3
  v3 := Tryd.zeroValue3
  t4 := Tryd.underlying4
  a4 := Tryd.isAgg4
  z4 := Tryd.sizeOf4
  v4 := Tryd.zeroValue4
  t22 := Tryd.underlying99
  a22 := Tryd.isAgg99
  z22 := Tryd.sizeOf99
  v22 := Tryd.zeroValue99
  t23 := Tryd.underlying3
  a23 := Tryd.isAgg3
  z23 := Tryd.sizeOf3
  v23 := Tryd.zeroValue3 }
end Go.Proofs.YtmiapccngeafkaaDoor

/- The contracts of the program's edgesAt, heights; slices.Equal. -/
namespace Go.Proofs.YtmiapccngeafkaaDoor
open Go Go.RowKit Go.Sort

theorem src2 (w : World) (y z : Int) : Src Tryd.prog 1 99 (.slice (some ⟨w.heap.size, 0, none⟩) 2 2) 2 (nums [y, z]) (w.alloc (.cells #[.int .i64 y, .int .i64 z] 3)) :=
  Src.ofSlice (P := Tryd.prog) _ Tryd.underlying99 ⟨w.heap.size, 0, none⟩ 2 2 (nums [y, z]) rfl (fun q u hu => by
    match q, hu with
    | 0, hu => cases hu; simp [Addr.add]
    | 1, hu => cases hu; simp [Addr.add]
    | q + 2, hu => simp [nums] at hu) (by simp [nums, Value.oneCell'])
theorem src1 (w : World) (y : Int) : Src Tryd.prog 1 99 (.slice (some ⟨w.heap.size, 0, none⟩) 1 1) 1 (nums [y]) (w.alloc (.cells #[.int .i64 y] 3)) :=
  Src.ofSlice (P := Tryd.prog) _ Tryd.underlying99 ⟨w.heap.size, 0, none⟩ 1 1 (nums [y]) rfl (fun q u hu => by
    match q, hu with
    | 0, hu => cases hu; simp [Addr.add]
    | q + 1, hu => simp [nums] at hu) (by simp [nums, Value.oneCell'])

/-- A row of numbers of the call's own. -/
structure OwJ (w u : World) (v : Value) (l : List Int) : Prop where
  own : u.ownsRow w.heap.size 3 1 v l.length (nums l)
  bel : Below w.heap.size w u

theorem OwJ.on {w u u' : World} {v : Value} {l : List Int} (h : OwJ w u v l) (hb : Below u.heap.size u u') : OwJ w u' v l := ⟨ownsRow_below h.own hb, Below.on h.bel hb⟩
theorem OwJ.base {w w0 u : World} {v : Value} {l : List Int} (h : OwJ w u v l) (hb : Below w0.heap.size w0 w) : OwJ w0 u v l := ⟨ownsRow_low h.own hb.size, Below.on hb h.bel⟩
theorem OwJ.grown {w u u' : World} {v v' : Value} {l m : List Int} {o : Obj} (h : OwJ w u v l) (o2 : u'.ownsRow w.heap.size 3 1 v' (l.length + m.length) (nums l ++ nums m)) (g : (u.alloc o).grownBy u' v.ownBlock) : OwJ w u' v' (l ++ m) :=
  ⟨by rw [List.length_append, nums_append]; exact o2, (h.bel.alloc h.bel.size _).grown g (by rw [World.size_alloc]; have := h.bel.size; omega) (fun k hk => (h.own.lt k hk).1)⟩
theorem OwJ.size {w u : World} {v : Value} {l : List Int} (h : OwJ w u v l) : w.heap.size ≤ u.heap.size := h.bel.size

theorem spans_snoc {l : List Rc} {j : Nat} {r : Rc} (h : l[j]? = some r) : spans (l.take (j + 1)) = spans (l.take j) ++ [r.x, r.x + r.w] := by
  rw [List.take_add_one, h]
  simp [spans]
def tops (l : List Rc) : List Int := l.flatMap fun r => [r.y, r.y + r.h]
theorem tops_append (a b : List Rc) : tops (a ++ b) = tops a ++ tops b := by simp [tops]
theorem tops_snoc {l : List Rc} {j : Nat} {r : Rc} (h : l[j]? = some r) : tops (l.take (j + 1)) = tops (l.take j) ++ [r.y, r.y + r.h] := by
  rw [List.take_add_one, h]
  simp [tops]
theorem tops_length (l : List Rc) : (tops l).length = 2 * l.length := by
  induction l with
  | nil => rfl
  | cons r l ih =>
    show (r.y :: (r.y + r.h) :: tops l).length = _
    rw [List.length_cons, List.length_cons, ih, List.length_cons]
    omega

set_option maxRecDepth 100000 in
set_option maxHeartbeats 2000000 in
theorem edgesat_any (a : Option Addr) (n c : Nat) (l : List Rc) (y : Int) (w : World) (h : RdC w a n c l) (hk : ∀ x ∈ l, Ck x) (hn : n ≤ 1000000) :
    Calls Tryd.prog 70 #[.slice a n c, .int .i64 y] w fun e w' => ∃ v, e = .returned v ∧ OwJ w w' v (edg l y) := by
  have hl := h.len
  have hs := h.small
  cases l with
  | nil =>
    obtain rfl : n = 0 := hl.symm
    go_enter Tryd.func70, Tryd.ntmps70
    go_wp2
    go_ret
    exact ⟨_, rfl, World.ownsRow_nil _ _ _ _, Below.refl _ _⟩
  | cons r t =>
    have hn0 : 0 < n := by rw [← hl]; simp
    obtain ⟨b, off, rfl, hb, hel⟩ := h.pl hn0
    obtain ⟨_, _, y0, _, _⟩ := hel 0 r rfl
    simp only [Nat.zero_mul, Nat.add_zero] at y0
    have e1 : ((n : Int) == 0) = false := by simp; omega
    have e2 : (0 : Int) < n := by omega
    cases hq : decide (y < r.y)
    · have HE : Hid (edg (r :: t) y = spans (band r t)) := by rw [Hid, edg, if_neg (by simpa using hq)]
      have H := hid h
      have HK := hid hk
      have hbl : bl r.y t + 1 ≤ n := by
        rw [← hl, List.length_cons]
        have := (List.takeWhile_sublist (p := fun a : Rc => decide (a.y = r.y)) (l := t)).length_le
        unfold bl
        omega
      have C1 := hid (fun u (hu : RdC u (some ⟨b, off, none⟩) n c (r :: t)) => first_any (some ⟨b, off, none⟩) n c r t u hu)
      have HT := hid (h.take hbl)
      rw [band_take] at HT
      have KB : Hid (∀ x ∈ band r t, Ck x) := fun x hx => HK.out x (by rw [← band_behind]; simp [hx])
      obtain ⟨i0, hi, hz0, hz1, hz2⟩ := info3 infoI
      clear hel h hk hl
      go_enter Tryd.func70, Tryd.ntmps70
      go_wp2_with fail
      refine (C1.out _ H.out).mono ?_
      rintro e w2 ⟨rfl, q, rfl⟩
      have HT := hid (HT.out.drewN q)
      have HB := hid (below_drewN (Below.refl w.heap.size w) q)
      obtain ⟨L, hL⟩ : ∃ L, L = band r t := ⟨_, rfl⟩
      obtain ⟨N, hN⟩ : ∃ N, N = bl r.y t + 1 := ⟨_, rfl⟩
      have HNL : Hid (L.length = N) := by rw [Hid, hL, hN]; exact band_len r t
      rw [← hL] at HT HE KB
      rw [← hN] at HT hbl ⊢
      generalize w.drewN q = w2 at HT HB ⊢
      clear hL hN C1 H HK
      have em : IntKind.i64.wrap (2 * (N : Int)) = 2 * (N : Int) := by rw [IntKind.wrap_i64]; omega
      go_wp2_with (at_make; refine wpList_make_own _ rfl _ _ 99 rfl w2.heap.size 3 i0 (.int .i64 0) 1 Tryd.underlying99 hi hz0 hz1 .i64 .i64 _ (2 * N) rfl rfl (by omega) (by rw [hz2]; omega) (by unfold maxLen; omega) (Nat.le_refl _) ?_; intro w3 own3 grow3)
      have HO : Hid (OwJ w2 w3 (.slice (some ⟨w2.heap.size, 0, none⟩) 0 (2 * N)) []) := ⟨own3, (Below.refl _ _).grown grow3 (Nat.le_refl _) (fun k h => by cases h)⟩
      clear own3 grow3
      go_wp2
      go_loopw [6, 28] (fun v i wr => ∃ j : Nat, i = .int .i64 j ∧ j ≤ N ∧ OwJ w2 wr v (spans (L.take j))) (fun _ i _ => N - (numOf i).toNat)
      case atStart => exact ⟨0, rfl, by omega, HO.out⟩
      case round =>
        obtain ⟨j, rfl, hj, hO⟩ := hrel
        have HO2 := hid hO
        clear hO HO
        by_cases hgo : j < N
        · have e3 : decide ((j : Int) < N) = true := decide_eq_true (by omega)
          obtain ⟨b', off', s, hbo, _, hsj, _, he⟩ := (HT.out.on HO2.out.bel).el hgo
          simp only [Option.some.injEq, Addr.mk.injEq, and_true] at hbo
          obtain ⟨rfl, rfl⟩ := hbo
          obtain ⟨_, c0, c1, c2, c3⟩ := he
          obtain ⟨g1, g2, g3, g4, g5, g6⟩ := KB.out s (List.mem_of_getElem? hsj)
          have HS := hid (spans_snoc hsj)
          have hlen : (spans (L.take j)).length ≤ 2000000 := by rw [spans_length, List.length_take]; omega
          have HX := hid (HO2.out.on (below_new wr (ob s)))
          rw [ob] at HX
          clear hsj
          have HOW := hid (HX.out.own.alloc (.cells #[.int .i64 s.x, .int .i64 (s.x + s.w)] 3))
          have HSR := hid (src2 (wr.alloc (.cells #[.int .i64 s.x, .int .i64 s.y, .int .i64 s.w, .int .i64 s.h] 24)) s.x (s.x + s.w))
          rw [World.size_alloc] at HSR
          have HSZ := (HX.out.on (below_new _ (.cells #[.int .i64 s.x, .int .i64 (s.x + s.w)] 3))).size
          have HA : Hid (∀ v' w', w'.ownsRow w2.heap.size 3 1 v' ((spans (L.take j)).length + 2) (nums (spans (L.take j)) ++ nums [s.x, s.x + s.w]) → ((wr.alloc (.cells #[.int .i64 s.x, .int .i64 s.y, .int .i64 s.w, .int .i64 s.h] 24)).alloc (.cells #[.int .i64 s.x, .int .i64 (s.x + s.w)] 3)).grownBy w' u6.ownBlock → OwJ w2 w' v' (spans (L.take (j + 1)))) := fun v' w' o g => by
            rw [HS.out]
            exact HX.out.grown o g
          clear HO2 HX HS
          generalize spans (L.take j) = K0 at HOW HA hlen
          go_wp2_with (at_builtin; refine wpList_append_own_src _ rfl (.tmp 32) (.tmp 40) 99 99 rfl w2.heap.size 3 i0 (.int .i64 0) 1 8 Tryd.underlying99 hi hz0 hz1 hz2 rfl _ _ _ rfl HOW.out _ _ _ rfl HSR.out (by simp only [maxLen]; omega) (fitsI (by omega)) HSZ ?_; intro v3 w3 o3 g3; have H3 := hid (HA.out _ _ o3 g3); clear o3 g3 HA HOW HSR HSZ)
          go_wp2
          go_roundw
          case rel => exact ⟨j + 1, by go_num, by omega, H3.out⟩
          case measure => simp [numOf]; omega
        · have e3 : decide ((j : Int) < N) = false := decide_eq_false (by omega)
          obtain rfl : j = N := by omega
          have HF : Hid (spans (L.take j) = edg (r :: t) y) := by rw [Hid, HE.out, List.take_of_length_le (by rw [HNL.out]; exact Nat.le_refl _)]
          go_wp2
          go_ret
          rw [HF.out] at HO2
          exact ⟨_, rfl, HO2.out.base HB.out⟩
    · have HE : Hid (edg (r :: t) y = []) := by rw [Hid, edg, if_pos (by simpa using hq)]
      clear hel h hk hl
      go_enter Tryd.func70, Tryd.ntmps70
      go_wp2
      go_ret
      rw [HE.out]
      exact ⟨_, rfl, World.ownsRow_nil _ _ _ _, Below.refl _ _⟩

theorem compact_upto (d : Array Int) (hd : ∀ i j, i ≤ j → j < d.size → d[i]! ≤ d[j]!) : ∀ m, m ≤ d.size → (Lib.compactUpTo d m).Pairwise (· < ·) ∧ (∀ x ∈ Lib.compactUpTo d m, 0 < m ∧ x ≤ d[m - 1]!) ∧ ∀ x, x ∈ Lib.compactUpTo d m ↔ ∃ i < m, d[i]! = x
  | 0, _ => by simp [Lib.compactUpTo]
  | m + 1, hm => by
    obtain ⟨h1, h2, h3⟩ := compact_upto d hd m (by omega)
    rw [Lib.compactUpTo_succ]
    by_cases hk : Lib.keeps d m = true
    · rw [if_pos hk]
      have hlt : ∀ x ∈ Lib.compactUpTo d m, x < d[m]! := fun x hx => by
        obtain ⟨g1, g2⟩ := h2 x hx
        have g3 := hd (m - 1) m (by omega) (by omega)
        have g4 : m = 0 ∨ d[m]! ≠ d[m - 1]! := by simpa [Lib.keeps] using hk
        rcases g4 with g4 | g4
        · omega
        · have : d[m - 1]! ≠ d[m]! := fun e => g4 e.symm
          omega
      refine ⟨?_, fun x hx => ?_, fun x => ?_⟩
      · rw [List.pairwise_append]
        exact ⟨h1, by simp, fun x hx y hy => by simp only [List.mem_singleton] at hy; rw [hy]; exact hlt x hx⟩
      · refine ⟨by omega, ?_⟩
        rcases List.mem_append.1 hx with hx | hx
        · have := hlt x hx; rw [Nat.add_sub_cancel]; omega
        · simp only [List.mem_singleton] at hx; rw [hx, Nat.add_sub_cancel]; exact Int.le_refl _
      · rw [List.mem_append, h3]
        constructor
        · rintro (⟨i, hi, e⟩ | hx)
          · exact ⟨i, by omega, e⟩
          · simp only [List.mem_singleton] at hx; exact ⟨m, by omega, hx.symm⟩
        · rintro ⟨i, hi, e⟩
          rcases Nat.lt_or_ge i m with h | h
          · exact .inl ⟨i, h, e⟩
          · obtain rfl : i = m := by omega
            exact .inr (by simp [e])
    · rw [if_neg hk, List.append_nil]
      have g : m ≠ 0 ∧ d[m]! = d[m - 1]! := by simpa [Lib.keeps] using hk
      refine ⟨h1, fun x hx => ⟨by omega, ?_⟩, fun x => ?_⟩
      · rw [Nat.add_sub_cancel, g.2]; exact (h2 x hx).2
      · rw [h3]
        constructor
        · rintro ⟨i, hi, e⟩; exact ⟨i, by omega, e⟩
        · rintro ⟨i, hi, e⟩
          rcases Nat.lt_or_ge i m with h | h
          · exact ⟨i, h, e⟩
          · obtain rfl : i = m := by omega
            exact ⟨i - 1, by omega, by rw [← g.2]; exact e⟩

theorem compact_ys (l : List Rc) : Lib.compact ((tops l).mergeSort fun x y => decide (x ≤ y)) = ysOf l := by
  obtain ⟨zs, hz⟩ : ∃ zs, zs = (tops l).mergeSort fun x y => decide (x ≤ y) := ⟨_, rfl⟩
  have hp : zs.Pairwise (fun a b => decide (a ≤ b) = true) := by
    rw [hz]
    exact List.pairwise_mergeSort (fun a b c h1 h2 => by simp at h1 h2 ⊢; omega) (fun a b => by simp; omega) _
  have hm : ∀ x, x ∈ zs ↔ x ∈ tops l := fun x => by rw [hz]; exact (List.mergeSort_perm _ _).mem_iff
  rw [← hz]
  have hg : ∀ i, i < zs.toArray.size → zs.toArray[i]! = zs[i]! := fun i hi => by simp
  obtain ⟨h1, _, h3⟩ := compact_upto zs.toArray (fun i j hij hj => by
    rw [hg i (by omega), hg j hj]
    simp only [List.size_toArray] at hj
    rw [getElem!_pos zs i (by omega), getElem!_pos zs j hj]
    rcases Nat.lt_or_ge i j with h | h
    · have := List.pairwise_iff_getElem.1 hp i j (by omega) hj h
      simpa using this
    · obtain rfl : i = j := by omega
      exact Int.le_refl _) zs.toArray.size (Nat.le_refl _)
  refine order_eq _ _ h1 (ys_rise l) (fun a _ b _ h h' => by omega) fun x => ?_
  have e : Lib.compact zs = Lib.compactUpTo zs.toArray zs.toArray.size := by rw [Lib.compact, List.size_toArray]
  rw [e, h3, ys_mem]
  have : (∃ i < zs.toArray.size, zs.toArray[i]! = x) ↔ x ∈ zs := by
    constructor
    · rintro ⟨i, hi, e⟩
      rw [hg i hi] at e
      simp only [List.size_toArray] at hi
      rw [getElem!_pos zs i hi] at e
      rw [← e]
      exact List.getElem_mem hi
    · intro h
      obtain ⟨i, hi, e⟩ := List.mem_iff_getElem.1 h
      exact ⟨i, by simpa using hi, by rw [hg i (by simpa using hi), getElem!_pos zs i hi]; exact e⟩
  rw [this, hm]
  simp [tops]

theorem below_grow {B : Nat} {w0 w : World} (h : RowKit.Below B w0 w) (hB : B ≤ w.heap.size) (os : Array Obj) : RowKit.Below B w0 (Sort.grow w os) :=
  ⟨h.os, h.tape, h.output, by rw [size_grow]; have := h.size; omega, fun k hk => by
    rw [← h.block k hk]
    unfold Sort.grow
    simp only
    rw [Array.getElem?_append_left (by omega)]⟩

theorem compact_len (zs : List Int) : (Lib.compact zs).length ≤ zs.length := by
  rw [Lib.compact, Lib.compactUpTo, List.length_map]
  exact Nat.le_trans (List.length_filter_le _ _) (by simp)

/-- Sorted, and each once. -/
theorem sorted_once {w u : World} {v : Value} {l : List Rc} (h : OwJ w u v (tops l)) (hn : (tops l).length ≤ 4000000) :
    Calls Tryd.prog 78 #[v] u fun e u1 => e = .returned (.tuple #[]) ∧ Calls Tryd.prog 79 #[v] u1 fun e u2 => ∃ v', e = .returned v' ∧ OwJ w u2 v' (ysOf l) := by
  rw [← compact_ys]
  generalize tops l = zs at h hn
  rcases h.own.2 with ⟨rfl, h0⟩ | ⟨g, cap, cur, rfl, hb, hg, hnc, hm, hcs, ht⟩
  · obtain rfl : zs = [] := List.eq_nil_of_length_eq_zero h0
    refine (AnyM.slices_Sort_int_none sortA none 0 u).mono ?_
    rintro e u1 ⟨rfl, rfl⟩
    refine ⟨rfl, (AnyG.slices_Compact_int_empty compA none 0 _).mono ?_⟩
    rintro e u2 ⟨rfl, rfl⟩
    exact ⟨_, rfl, by simpa [Lib.compact, Lib.compactUpTo, nums] using World.ownsRow_nil _ _ _ _, h.bel⟩
  · have hgl := (h.own.lt g rfl)
    obtain ⟨_, _, e0, _, _, _, _, _, hH⟩ := Lib.holds_of_ownsRow (enc := Value.int .i64) h.own (by simp)
    cases e0
    refine (AnyM.slices_Sort_int sortA g 0 cap zs u hH hgl.2 (by omega)).mono ?_
    rintro e u1 ⟨rfl, n, os, rfl⟩
    have hlen : (zs.mergeSort fun x y => decide (x ≤ y)).length = zs.length := List.length_mergeSort _
    have own1 := ownsRow_sortedI (w := u) (base := w.heap.size) (g := g) (cap := cap) (n := n) (os := os) (e := 3) (ss := zs) (ts := zs.mergeSort fun x y => decide (x ≤ y)) hlen hb hg hnc hm hcs
    have bel1 : RowKit.Below w.heap.size w (Sort.grow (putRow (Value.int .i64) (Sort.ahead u n) g 0 (zs.mergeSort fun x y => decide (x ≤ y)).toArray) os) := below_grow (Lib.below_putRow h.bel hb) (by
      have := h.bel.size
      simpa [putRow, mapBlock, Sort.ahead] using this) os
    refine ⟨rfl, ?_⟩
    generalize Sort.grow (putRow (Value.int .i64) (Sort.ahead u n) g 0 (zs.mergeSort fun x y => decide (x ≤ y)).toArray) os = u1 at own1 bel1
    generalize (zs.mergeSort fun x y => decide (x ≤ y)) = ss at own1 hlen
    rw [← hlen] at own1 hnc ⊢
    obtain ⟨_, _, e0, _, _, _, _, _, hH1⟩ := Lib.holds_of_ownsRow (enc := Value.int .i64) own1 (by simp)
    cases e0
    refine (AnyG.slices_Compact_int compA g 0 cap ss u1 hH1 (by omega) hnc).mono ?_
    rintro e u2 ⟨rfl, q, rfl⟩
    have hc := compact_len ss
    have own2 := Lib.ownsRow_putRow (enc := Value.int .i64) (q := q) (k := (Lib.compact ss).length) own1 (ys := Lib.compact ss ++ List.replicate (ss.length - (Lib.compact ss).length) 0) (by simp; omega) hc
    rw [List.take_left] at own2
    exact ⟨_, rfl, own2, Lib.below_putRow bel1 hb⟩

set_option maxRecDepth 100000 in
set_option maxHeartbeats 2000000 in
theorem heights_any (a a' : Option Addr) (n c n' c' : Nat) (l m : List Rc) (w : World) (h : RdC w a n c l) (h' : RdC w a' n' c' m) (hk : ∀ x ∈ l, Ck x) (hk' : ∀ x ∈ m, Ck x) (hn : n ≤ 1000000) (hn' : n' ≤ 1000000) :
    Calls Tryd.prog 67 #[.slice a n c, .slice a' n' c'] w fun e w' => ∃ v, e = .returned v ∧ OwJ w w' v (ysOf (l ++ m)) := by
  have H := hid h
  have H' := hid h'
  have K := hid hk
  have K' := hid hk'
  have HL := hid h.len
  have HL' := hid h'.len
  obtain ⟨i0, hi, hz0, hz1, hz2⟩ := info3 infoI
  clear h h' hk hk'
  have es : IntKind.i64.wrap ((n : Int) + (n' : Int)) = (n : Int) + n' := by rw [IntKind.wrap_i64]; omega
  have em : IntKind.i64.wrap (2 * ((n : Int) + (n' : Int))) = 2 * ((n : Int) + n') := by rw [IntKind.wrap_i64]; omega
  go_enter Tryd.func67, Tryd.ntmps67
  go_wp2_with (at_make; refine wpList_make_own _ rfl _ _ 99 rfl w.heap.size 3 i0 (.int .i64 0) 1 Tryd.underlying99 hi hz0 hz1 .i64 .i64 _ (2 * (n + n')) rfl rfl (by omega) (by rw [hz2]; omega) (by unfold maxLen; omega) (Nat.le_refl _) ?_; intro w3 own3 grow3)
  have HO : Hid (OwJ w w3 (.slice (some ⟨w.heap.size, 0, none⟩) 0 (2 * (n + n'))) (tops (l.take 0))) := ⟨own3, (Below.refl _ _).grown grow3 (Nat.le_refl _) (fun k h => by cases h)⟩
  clear own3 grow3
  go_wp2
  go_loopw [5, 19] (fun v i wr => ∃ j : Nat, i = .int .i64 j ∧ j ≤ n ∧ OwJ w wr v (tops (l.take j))) (fun _ i _ => n - (numOf i).toNat)
  case atStart => exact ⟨0, rfl, by omega, HO.out⟩
  case round =>
    obtain ⟨j, rfl, hj, hO⟩ := hrel
    have HO2 := hid hO
    clear hO HO
    by_cases hgo : j < n
    · have e3 : decide ((j : Int) < n) = true := decide_eq_true (by omega)
      obtain ⟨b, off, s, rfl, _, hsj, _, he⟩ := (H.out.on HO2.out.bel).el hgo
      obtain ⟨_, c0, c1, c2, c3⟩ := he
      obtain ⟨g1, g2, g3, g4, g5, g6⟩ := K.out s (List.mem_of_getElem? hsj)
      have HS := hid (tops_snoc hsj)
      have hlen : (tops (l.take j)).length ≤ 4000000 := by simp only [tops_length, List.length_take]; omega
      have HX := hid (HO2.out.on (below_new wr (ob s)))
      rw [ob] at HX
      clear hsj
      have HOW := hid (HX.out.own.alloc (.cells #[.int .i64 s.y, .int .i64 (s.y + s.h)] 3))
      have HSR := hid (src2 (wr.alloc (.cells #[.int .i64 s.x, .int .i64 s.y, .int .i64 s.w, .int .i64 s.h] 24)) s.y (s.y + s.h))
      rw [World.size_alloc] at HSR
      have HSZ := (HX.out.on (below_new _ (.cells #[.int .i64 s.y, .int .i64 (s.y + s.h)] 3))).size
      have HA : Hid (∀ v' w', w'.ownsRow w.heap.size 3 1 v' ((tops (l.take j)).length + 2) (nums (tops (l.take j)) ++ nums [s.y, s.y + s.h]) → ((wr.alloc (.cells #[.int .i64 s.x, .int .i64 s.y, .int .i64 s.w, .int .i64 s.h] 24)).alloc (.cells #[.int .i64 s.y, .int .i64 (s.y + s.h)] 3)).grownBy w' u5.ownBlock → OwJ w w' v' (tops (l.take (j + 1)))) := fun v' w' o g => by
        rw [HS.out]
        exact HX.out.grown o g
      clear HO2 HX HS
      generalize tops (l.take j) = K0 at HOW HA hlen
      go_wp2_with (at_builtin; refine wpList_append_own_src _ rfl (.tmp 23) (.tmp 31) 99 99 rfl w.heap.size 3 i0 (.int .i64 0) 1 8 Tryd.underlying99 hi hz0 hz1 hz2 rfl _ _ _ rfl HOW.out _ _ _ rfl HSR.out (by simp only [maxLen]; omega) (fitsI (by omega)) HSZ ?_; intro v3 w3 o3 g3; have H3 := hid (HA.out _ _ o3 g3); clear o3 g3 HA HOW HSR HSZ)
      go_wp2
      go_roundw
      case rel => exact ⟨j + 1, by go_num, by omega, H3.out⟩
      case measure => simp [numOf]; omega
    · have e3 : decide ((j : Int) < n) = false := decide_eq_false (by omega)
      obtain rfl : j = n := by omega
      have HF : Hid (tops (l.take j) = tops l) := by rw [Hid, List.take_of_length_le (by rw [HL.out]; exact Nat.le_refl _)]
      rw [HF.out] at HO2
      have HO : Hid (OwJ w wr u5 (tops l ++ tops (m.take 0))) := by rw [Hid, List.take_zero, show tops [] = [] from rfl, List.append_nil]; exact HO2.out
      clear HO2 HF
      go_wp2
      go_loopw [5, 36] (fun v i wr => ∃ j : Nat, i = .int .i64 j ∧ j ≤ n' ∧ OwJ w wr v (tops l ++ tops (m.take j))) (fun _ i _ => n' - (numOf i).toNat)
      case atStart => exact ⟨0, rfl, by omega, HO.out⟩
      case round =>
        obtain ⟨j, rfl, hj, hO⟩ := hrel
        have HO2 := hid hO
        clear hO HO
        by_cases hgo : j < n'
        · have e3 : decide ((j : Int) < n') = true := decide_eq_true (by omega)
          obtain ⟨b, off, s, rfl, _, hsj, _, he⟩ := (H'.out.on HO2.out.bel).el hgo
          obtain ⟨_, c0, c1, c2, c3⟩ := he
          obtain ⟨g1, g2, g3, g4, g5, g6⟩ := K'.out s (List.mem_of_getElem? hsj)
          have HS := hid (tops_snoc hsj)
          have hlen : (tops l ++ tops (m.take j)).length ≤ 4000000 := by have := HL.out; simp only [List.length_append, tops_length, List.length_take]; omega
          have HX := hid (HO2.out.on (below_new wr (ob s)))
          rw [ob] at HX
          clear hsj
          have HOW := hid (HX.out.own.alloc (.cells #[.int .i64 s.y, .int .i64 (s.y + s.h)] 3))
          have HSR := hid (src2 (wr.alloc (.cells #[.int .i64 s.x, .int .i64 s.y, .int .i64 s.w, .int .i64 s.h] 24)) s.y (s.y + s.h))
          rw [World.size_alloc] at HSR
          have HSZ := (HX.out.on (below_new _ (.cells #[.int .i64 s.y, .int .i64 (s.y + s.h)] 3))).size
          have HA : Hid (∀ v' w', w'.ownsRow w.heap.size 3 1 v' ((tops l ++ tops (m.take j)).length + 2) (nums (tops l ++ tops (m.take j)) ++ nums [s.y, s.y + s.h]) → ((wr.alloc (.cells #[.int .i64 s.x, .int .i64 s.y, .int .i64 s.w, .int .i64 s.h] 24)).alloc (.cells #[.int .i64 s.y, .int .i64 (s.y + s.h)] 3)).grownBy w' u5.ownBlock → OwJ w w' v' (tops l ++ tops (m.take (j + 1)))) := fun v' w' o g => by
            rw [HS.out, ← List.append_assoc]
            exact HX.out.grown o g
          clear HO2 HX HS
          generalize tops l ++ tops (m.take j) = K0 at HOW HA hlen
          go_wp2_with (at_builtin; refine wpList_append_own_src _ rfl (.tmp 40) (.tmp 48) 99 99 rfl w.heap.size 3 i0 (.int .i64 0) 1 8 Tryd.underlying99 hi hz0 hz1 hz2 rfl _ _ _ rfl HOW.out _ _ _ rfl HSR.out (by simp only [maxLen]; omega) (fitsI (by omega)) HSZ ?_; intro v3 w3 o3 g3; have H3 := hid (HA.out _ _ o3 g3); clear o3 g3 HA HOW HSR HSZ)
          go_wp2
          go_roundw
          case rel => exact ⟨j + 1, by go_num, by omega, H3.out⟩
          case measure => simp [numOf]; omega
        · have e3 : decide ((j : Int) < n') = false := decide_eq_false (by omega)
          obtain rfl : j = n' := by omega
          have HF : Hid (tops l ++ tops (m.take j) = tops (l ++ m)) := by rw [Hid, List.take_of_length_le (by rw [HL'.out]; exact Nat.le_refl _), tops_append]
          rw [HF.out] at HO2
          have CS := hid (sorted_once HO2.out (by rw [tops_length, List.length_append]; have := HL.out; have := HL'.out; omega))
          clear HO2 HF
          go_wp2_with fail
          refine CS.out.mono ?_
          rintro e w4 ⟨rfl, hc4⟩
          have CC := hid hc4
          clear hc4
          go_wp2_with fail
          refine CC.out.mono ?_
          rintro e w5 ⟨v5, rfl, h5⟩
          have H5 := hid h5
          clear h5
          go_wp2
          go_ret
          exact ⟨_, rfl, H5.out⟩
end Go.Proofs.YtmiapccngeafkaaDoor

/- The contracts of slices.Equal at int and of the program's mix. -/
namespace Go.Proofs.YtmiapccngeafkaaDoor
open Go Go.RowKit

/-- The same numbers. -/
def eqi (a b : List Int) : Bool := decide (a = b)
theorem eqi_cons (x y : Int) (a b : List Int) : eqi (x :: a) (y :: b) = (x == y && eqi a b) := by
  rw [Bool.eq_iff_iff]
  simp [eqi]
theorem eqi_len {a b : List Int} (h : a.length ≠ b.length) : eqi a b = false := by
  rw [eqi, decide_eq_false]
  intro e
  exact h (by rw [e])

set_option maxRecDepth 100000 in
set_option maxHeartbeats 1000000 in
theorem equal_any (a a' : Option Addr) (n c n' c' : Nat) (l m : List Int) (w : World) (h : RdJ w a n c l) (h' : RdJ w a' n' c' m) :
    Calls Tryd.prog 71 #[.slice a n c, .slice a' n' c'] w fun e w' => e = .returned (.bool (eqi l m)) ∧ ∃ q, w' = w.drewN q := by
  have hl := h.len
  have hl' := h'.len
  have hn63 := h.small.1
  have hn63' := h'.small.1
  by_cases hnn : n = n'
  · subst hnn
    have H := hid h
    have H' := hid h'
    have HL := hid hl
    have HL' := hid hl'
    clear h h' hl hl'
    go_enter Tryd.func71, Tryd.ntmps71
    go_wp2
    go_loopw [13] (fun i wr => ∃ j : Nat, i = .int .i64 j ∧ j ≤ n ∧ eqi (l.drop j) (m.drop j) = eqi l m ∧ ∃ q, wr = w.drewN q) (fun i _ => n - (numOf i).toNat)
    case atStart => exact ⟨0, rfl, by omega, rfl, 0, rfl⟩
    case round =>
      obtain ⟨j, rfl, hj, hq, q, rfl⟩ := hrel
      by_cases hgo : j < n
      · have e1 : decide ((j : Int) < n) = true := decide_eq_true (by omega)
        have e2 : (j : Int) < n := by omega
        obtain ⟨b, off, x, rfl, _, hx, c0⟩ := H.out.el hgo
        obtain ⟨b', off', y, rfl, _, hy, d0⟩ := H'.out.el hgo
        have HD : Hid (eqi l m = (x == y && eqi (l.drop (j + 1)) (m.drop (j + 1)))) := by
          rw [Hid, ← hq, drop_at hx, drop_at hy, eqi_cons]
        clear hx hy hq
        cases hs : (x == y)
        · have HE : Hid (eqi l m = false) := by rw [Hid, HD.out, hs]; rfl
          go_wp2
          go_quiet (fail)
          go_wp2
          go_ret
          rw [HE.out, World.drewN_drewN]
          exact ⟨rfl, _, rfl⟩
        · have HE : Hid (eqi (l.drop (j + 1)) (m.drop (j + 1)) = eqi l m) := by rw [Hid, HD.out, hs]; rfl
          go_wp2
          go_quiet (fail)
          go_wp2
          go_roundw
          case rel => exact ⟨j + 1, by go_num, by omega, HE.out, _, rfl⟩
          case measure => simp [numOf]; omega
      · have e1 : decide ((j : Int) < n) = false := decide_eq_false (by omega)
        have HE : Hid (eqi l m = true) := by
          rw [Hid, ← hq, List.drop_eq_nil_of_le (by rw [HL.out]; omega), List.drop_eq_nil_of_le (by rw [HL'.out]; omega)]
          rfl
        clear hq
        go_wp2
        go_ret
        rw [HE.out]
        exact ⟨rfl, _, rfl⟩
  · have HE : Hid (eqi l m = false) := eqi_len (by omega)
    have e1 : ((n : Int) == n') = false := by simp; omega
    clear h h' hl hl'
    go_enter Tryd.func71, Tryd.ntmps71
    go_wp2
    go_ret
    rw [HE.out]
    exact ⟨rfl, 0, rfl⟩

/-- One step of mix: whether the first is taken, the second, and the rest. -/
def tk1 (a b : List Int) : Bool := match a with
  | [] => false
  | x :: _ => x == lst a b
theorem mix_nil (f : Bool → Bool → Bool) (p q r : Bool) : mix f p q r [] [] = [] := by rw [mix]
def bx (p q : Bool) : Bool := if q = true then !p else p
def dn (p : Bool) (l : List Int) : List Int := if p = true then l.tail else l
theorem mix_step (f : Bool → Bool → Bool) (p q r : Bool) (a b : List Int) (h : a ≠ [] ∨ b ≠ []) :
    mix f p q r a b = if f (bx p (tk1 a b)) (bx q (tk1 b a)) = r then mix f (bx p (tk1 a b)) (bx q (tk1 b a)) r (dn (tk1 a b) a) (dn (tk1 b a) b) else lst a b :: mix f (bx p (tk1 a b)) (bx q (tk1 b a)) (!r) (dn (tk1 a b) a) (dn (tk1 b a) b) := by
  match a, b with
  | [], [] => simp at h
  | x :: a, [] => rw [mix]; simp [tk1, lst, bx, dn]
  | [], y :: b => rw [mix]; simp [tk1, lst, bx, dn]
  | x :: a, y :: b =>
    rw [mix]
    rcases Int.lt_trichotomy x y with h1 | h1 | h1
    · have e1 : tk1 (x :: a) (y :: b) = true := by simp [tk1, lst]; omega
      have e2 : tk1 (y :: b) (x :: a) = false := by simp [tk1, lst]; omega
      have e3 : lst (x :: a) (y :: b) = x := by simp [lst]; omega
      rw [if_pos h1, e1, e2, e3]
      simp [bx, dn]
    · subst h1
      have e1 : tk1 (x :: a) (x :: b) = true := by simp [tk1, lst]
      have e2 : tk1 (x :: b) (x :: a) = true := by simp [tk1, lst]
      have e3 : lst (x :: a) (x :: b) = x := by simp [lst]
      rw [if_neg (by omega), if_neg (by omega), e1, e2, e3]
      simp [bx, dn]
    · have e1 : tk1 (x :: a) (y :: b) = false := by simp [tk1, lst]; omega
      have e2 : tk1 (y :: b) (x :: a) = true := by simp [tk1, lst]; omega
      have e3 : lst (x :: a) (y :: b) = y := by simp [lst]; omega
      rw [if_neg (by omega), if_pos h1, e1, e2, e3]
      simp [bx, dn]
end Go.Proofs.YtmiapccngeafkaaDoor

/- The contract of the program's mix. -/
namespace Go.Proofs.YtmiapccngeafkaaDoor
open Go Go.RowKit

/-- A function of two truths. -/
structure Fn2 (g : Nat) (f : Bool → Bool → Bool) : Prop where
  ent : ∀ args w, (callFunc g args).run Tryd.prog w = .ok (.enter g args) w
  run : ∀ p q u, Calls Tryd.prog g #[.bool p, .bool q] u fun e u' => e = .returned (.bool (f p q)) ∧ u' = u

theorem RdJ.cut {w : World} {a : Option Addr} {n c : Nat} {l : List Int} (h : RdJ w a n c l) {k : Nat} (hk : k ≤ n) : RdJ w (Option.map (fun x => x.add k) a) (n - k) (c - k) (l.drop k) := by
  have hl := h.len
  have hle := h.le
  have hm := h.max
  refine ⟨by rw [List.length_drop]; omega, by omega, by omega, (fun e => by
    cases a with
    | none => have := h.hnil rfl; omega
    | some x => cases e), fun hk0 => ?_⟩
  obtain ⟨b, off, rfl, h1, h2⟩ := h.pl (by omega)
  refine ⟨b, off + k, by simp [Addr.add], h1, fun j r hr => ?_⟩
  rw [List.getElem?_drop] at hr
  have := h2 _ _ hr
  rwa [Nat.add_assoc]
theorem RdJ.cut0 {w : World} {a : Option Addr} {n k : Nat} {l : List Int} (h : RdJ w a n k l) : RdJ w a 0 0 (l.drop k) := by
  have hl := h.len
  have hle := h.le
  rw [List.drop_eq_nil_of_le (by omega)]
  exact RdJ.none_of _ _ (Nat.zero_le _) (fun _ => rfl)

/-- mix's state. -/
structure Mx (f : Bool → Bool → Bool) (A B : List Int) (i j : Nat) (E : List Int) : Prop where
  le : E.length ≤ i + j
  eq : E ++ mix f (od i) (od j) (od E.length) (A.drop i) (B.drop j) = mix f false false false A B

theorem lst_comm (a b : List Int) : lst a b = lst b a := by
  cases a <;> cases b <;> simp [lst]
  omega
theorem tk1_some {a b : List Int} (h : a ≠ [] ∨ b ≠ []) : tk1 a b = true ∨ tk1 b a = true := by
  cases a <;> cases b <;> simp [tk1, lst] at h ⊢
  omega
def up (i : Nat) (p : Bool) : Nat := if p = true then i + 1 else i
theorem od_up (i : Nat) (p : Bool) : od (up i p) = bx (od i) p := by
  cases p
  · rfl
  · exact od_succ i
theorem drop_up (l : List Int) (i : Nat) (p : Bool) : l.drop (up i p) = dn p (l.drop i) := by
  cases p
  · rfl
  · simp [up, dn]
theorem Mx.step {f : Bool → Bool → Bool} {A B : List Int} {i j : Nat} {E : List Int} (h : Mx f A B i j E) (hn : A.drop i ≠ [] ∨ B.drop j ≠ []) (i' j' : Nat) (hi : i' = up i (tk1 (A.drop i) (B.drop j))) (hj : j' = up j (tk1 (B.drop j) (A.drop i))) (hlt : i + j + 1 ≤ i' + j') :
    (f (od i') (od j') = od E.length → Mx f A B i' j' E) ∧ (f (od i') (od j') ≠ od E.length → Mx f A B i' j' (E ++ [lst (A.drop i) (B.drop j)])) := by
  have h1 := h.le
  have h2 := h.eq
  rw [mix_step _ _ _ _ _ _ hn, ← od_up, ← od_up, ← drop_up, ← drop_up, ← hi, ← hj] at h2
  constructor
  · intro e
    rw [if_pos e] at h2
    exact ⟨by omega, h2⟩
  · intro e
    rw [if_neg e] at h2
    refine ⟨by rw [List.length_append]; simp; omega, ?_⟩
    rw [List.length_append, List.length_singleton, od_succ, List.append_assoc]
    exact h2

set_option maxRecDepth 100000 in
set_option maxHeartbeats 2000000 in
theorem mix_any (a a' : Option Addr) (n c n' c' : Nat) (A B : List Int) (g : Nat) (f : Bool → Bool → Bool) (w : World) (h : RdJ w a n c A) (h' : RdJ w a' n' c' B) (hg : Fn2 g f) (hn : n ≤ 1000000) (hn' : n' ≤ 1000000) :
    Calls Tryd.prog 69 #[.slice a n c, .slice a' n' c', .func (.func g) #[] #[]] w fun e w' => ∃ v, e = .returned v ∧ OwJ w w' v (mix f false false false A B) := by
  have H := hid h
  have H' := hid h'
  have HL := hid h.len
  have HL' := hid h'.len
  have hs := h.small
  have hs' := h'.small
  have hle := h.le
  have hle' := h'.le
  have eg := hg.ent
  have HG := hid hg
  obtain ⟨i0, hi, hz0, hz1, hz2⟩ := info3 infoI
  clear h h' hg
  go_enter Tryd.func69, Tryd.ntmps69
  go_wp2
  go_loopw [7, 8, 9] (fun v x y wr => ∃ (i j : Nat) (E : List Int), x = .int .i64 i ∧ y = .int .i64 j ∧ i ≤ n ∧ j ≤ n' ∧ Mx f A B i j E ∧ OwJ w wr v E) (fun _ x y _ => (n - (numOf x).toNat) + (n' - (numOf y).toNat))
  case atStart => exact ⟨0, 0, [], rfl, rfl, by omega, by omega, ⟨by simp, by simp [od]⟩, World.ownsRow_nil _ _ _ _, Below.refl _ _⟩
  case round =>
    obtain ⟨i, j, E, rfl, rfl, hin, hjn, hM, hO⟩ := hrel
    have HM := hid hM
    have HO := hid hO
    clear hM hO
    by_cases hgo : i < n ∨ j < n'
    · have HN : Hid (A.drop i ≠ [] ∨ B.drop j ≠ []) := by
        rcases hgo with h | h
        · exact .inl (fun e => by have := congrArg List.length e; rw [List.length_drop, HL.out] at this; simp at this; omega)
        · exact .inr (fun e => by have := congrArg List.length e; rw [List.length_drop, HL'.out] at this; simp at this; omega)
      obtain ⟨X, hX⟩ : ∃ X, X = lst (A.drop i) (B.drop j) := ⟨_, rfl⟩
      have HX := hid hX
      clear hX
      have CL : Hid (∀ (ad ad' : Option Addr) (m k m' k' : Nat) (u : World), RdJ u ad m k (A.drop i) → RdJ u ad' m' k' (B.drop j) → Calls Tryd.prog 80 #[.slice ad m k, .slice ad' m' k'] u fun e w' => e = .returned (.int .i64 X) ∧ ∃ q, w' = u.drewN q) := fun ad ad' m k m' k' u h1 h2 => by
        rw [HX.out]
        have l1 := h1.len
        have l2 := h2.len
        rw [List.length_drop, HL.out] at l1
        rw [List.length_drop, HL'.out] at l2
        exact least_any ad ad' m k m' k' _ _ u h1 h2 (by omega)
      go_upto_region 3 with fail
      go_cut [20] from 11 to 69 (fun v wx => v = .bool true ∧ wx = wr)
      case first =>
        cases e1 : decide (i < n)
        · have e2 : decide (j < n') = true := by rcases hgo with h | h; simp [h] at e1; simpa using h
          go_wp2_with fail
          go_meet
          exact ⟨rfl, rfl⟩
        · go_wp2_with fail
          go_meet
          exact ⟨rfl, rfl⟩
      case rest =>
        obtain ⟨rfl, rfl⟩ := hcut
        go_upto_region 4 with fail
        go_cut [10] from 11 to 69 (fun v wx => v = .int .i64 X ∧ RowKit.Below wc.heap.size wc wx)
        case first =>
          by_cases hci : c = i
          · subst hci
            have hcj : ¬ c' = j := by omega
            refine wp_region_held_drew (S := fun x => Below wc.heap.size wc x) (by kernel_rfl) (Below.refl _ _).drew (fun hHeld => ?_)
            have hHeld : Below wc.heap.size wc wc.drew := hHeld
            refine wpAnyH_take (i := 0) (v := ?_) rfl (by kernel_rfl) (by kernel_rfl) (by kernel_rfl) (fun _ _ _ h => h) (Or.inl ⟨by kernel_rfl, ?hy0⟩) (by assumption) ?_
            case hy0 => (intro w hSw; (try dsimp only at hSw); go_simp; try with_reducible rfl)
            try simp only [Act.put, List.getElem_toArray, List.getElem_cons_zero, List.setIfInBounds_toArray, List.set_cons_zero, List.set_cons_succ]
            refine wpAnyH_take (i := 1) (v := ?_) rfl (by kernel_rfl) (by kernel_rfl) (by kernel_rfl) (fun _ _ _ h => h) (Or.inl ⟨by kernel_rfl, ?hy1⟩) (by assumption) ?_
            case hy1 => (intro w hSw; (try dsimp only at hSw); go_simp; try with_reducible rfl)
            try simp only [Act.put, List.getElem_toArray, List.getElem_cons_zero, List.getElem_cons_succ, List.setIfInBounds_toArray, List.set_cons_zero, List.set_cons_succ]
            refine wpAnyH_take (i := 2) (v := ?_) rfl (by kernel_rfl) (by kernel_rfl) (by kernel_rfl) (fun _ _ _ h => h) (Or.inl ⟨by kernel_rfl, ?hy2⟩) (by assumption) ?_
            case hy2 => (intro w hSw; (try dsimp only at hSw); go_simp; try with_reducible rfl)
            try simp only [Act.put, List.getElem_toArray, List.getElem_cons_zero, List.getElem_cons_succ, List.setIfInBounds_toArray, List.set_cons_zero, List.set_cons_succ]
            refine wpAnyH_take (i := 3) (v := ?_) rfl (by kernel_rfl) (by kernel_rfl) (by kernel_rfl) (fun _ _ _ h => h) (Or.inl ⟨by kernel_rfl, ?hy3⟩) (by assumption) ?_
            case hy3 => (intro w hSw; (try dsimp only at hSw); go_simp; try with_reducible rfl)
            try simp only [Act.put, List.getElem_toArray, List.getElem_cons_zero, List.getElem_cons_succ, List.setIfInBounds_toArray, List.set_cons_zero, List.set_cons_succ]
            refine wpAnyH_take (i := 4) (v := ?_) rfl (by kernel_rfl) (by kernel_rfl) (by kernel_rfl) (fun _ _ _ h => h) (Or.inl ⟨by kernel_rfl, ?hy4⟩) (by assumption) ?_
            case hy4 => (intro w hSw; (try dsimp only at hSw); go_simp; try with_reducible rfl)
            try simp only [Act.put, List.getElem_toArray, List.getElem_cons_zero, List.getElem_cons_succ, List.setIfInBounds_toArray, List.set_cons_zero, List.set_cons_succ]
            refine wpAnyH_take (i := 5) (v := ?_) rfl (by kernel_rfl) (by kernel_rfl) (by kernel_rfl) (fun _ _ _ h => h) (Or.inl ⟨by kernel_rfl, ?hy5⟩) (by assumption) ?_
            case hy5 => (intro w hSw; (try dsimp only at hSw); go_simp; try with_reducible rfl)
            try simp only [Act.put, List.getElem_toArray, List.getElem_cons_zero, List.getElem_cons_succ, List.setIfInBounds_toArray, List.set_cons_zero, List.set_cons_succ]
            refine wpAnyH_ready (rs := [6]) (by kernel_rfl) (by simp) ?_
            refine AllReadyH.cons rfl (fun K hK => ?_) AllReadyH.nil
            go_simp
            go_wp2_with fail
            refine (CL.out a (Option.map (fun x => x.add j) a') 0 0 (n' - j) (c' - j) _ (H.out.on (Below.on HO.out.bel hHeld)).cut0 ((H'.out.on (Below.on HO.out.bel hHeld)).cut hjn)).mono ?_
            rintro e u27 ⟨rfl, q27, rfl⟩
            replace hHeld := below_drewN hHeld q27
            refine hK.out _ _ hHeld (fun _ => ?_)
            clear hK K
            refine wpAnyH_take (i := 7) (v := ?_) rfl (by kernel_rfl) (by kernel_rfl) (by kernel_rfl) (fun _ _ _ h => h) (Or.inl ⟨by kernel_rfl, ?hy7⟩) (by assumption) ?_
            case hy7 => (intro w hSw; (try dsimp only at hSw); go_simp; try with_reducible rfl)
            try simp only [Act.put, List.getElem_toArray, List.getElem_cons_zero, List.getElem_cons_succ, List.setIfInBounds_toArray, List.set_cons_zero, List.set_cons_succ]
            refine wpAnyH_done (by kernel_rfl) ?_ _
            go_wp2_with fail
            go_meet
            exact ⟨rfl, hHeld⟩
          · by_cases hcj : c' = j
            · subst hcj
              refine wp_region_held_drew (S := fun x => Below wc.heap.size wc x) (by kernel_rfl) (Below.refl _ _).drew (fun hHeld => ?_)
              have hHeld : Below wc.heap.size wc wc.drew := hHeld
              refine wpAnyH_take (i := 0) (v := ?_) rfl (by kernel_rfl) (by kernel_rfl) (by kernel_rfl) (fun _ _ _ h => h) (Or.inl ⟨by kernel_rfl, ?hy0⟩) (by assumption) ?_
              case hy0 => (intro w hSw; (try dsimp only at hSw); go_simp; try with_reducible rfl)
              try simp only [Act.put, List.getElem_toArray, List.getElem_cons_zero, List.setIfInBounds_toArray, List.set_cons_zero, List.set_cons_succ]
              refine wpAnyH_take (i := 1) (v := ?_) rfl (by kernel_rfl) (by kernel_rfl) (by kernel_rfl) (fun _ _ _ h => h) (Or.inl ⟨by kernel_rfl, ?hy1⟩) (by assumption) ?_
              case hy1 => (intro w hSw; (try dsimp only at hSw); go_simp; try with_reducible rfl)
              try simp only [Act.put, List.getElem_toArray, List.getElem_cons_zero, List.getElem_cons_succ, List.setIfInBounds_toArray, List.set_cons_zero, List.set_cons_succ]
              refine wpAnyH_take (i := 2) (v := ?_) rfl (by kernel_rfl) (by kernel_rfl) (by kernel_rfl) (fun _ _ _ h => h) (Or.inl ⟨by kernel_rfl, ?hy2⟩) (by assumption) ?_
              case hy2 => (intro w hSw; (try dsimp only at hSw); go_simp; try with_reducible rfl)
              try simp only [Act.put, List.getElem_toArray, List.getElem_cons_zero, List.getElem_cons_succ, List.setIfInBounds_toArray, List.set_cons_zero, List.set_cons_succ]
              refine wpAnyH_take (i := 3) (v := ?_) rfl (by kernel_rfl) (by kernel_rfl) (by kernel_rfl) (fun _ _ _ h => h) (Or.inl ⟨by kernel_rfl, ?hy3⟩) (by assumption) ?_
              case hy3 => (intro w hSw; (try dsimp only at hSw); go_simp; try with_reducible rfl)
              try simp only [Act.put, List.getElem_toArray, List.getElem_cons_zero, List.getElem_cons_succ, List.setIfInBounds_toArray, List.set_cons_zero, List.set_cons_succ]
              refine wpAnyH_take (i := 4) (v := ?_) rfl (by kernel_rfl) (by kernel_rfl) (by kernel_rfl) (fun _ _ _ h => h) (Or.inl ⟨by kernel_rfl, ?hy4⟩) (by assumption) ?_
              case hy4 => (intro w hSw; (try dsimp only at hSw); go_simp; try with_reducible rfl)
              try simp only [Act.put, List.getElem_toArray, List.getElem_cons_zero, List.getElem_cons_succ, List.setIfInBounds_toArray, List.set_cons_zero, List.set_cons_succ]
              refine wpAnyH_take (i := 5) (v := ?_) rfl (by kernel_rfl) (by kernel_rfl) (by kernel_rfl) (fun _ _ _ h => h) (Or.inl ⟨by kernel_rfl, ?hy5⟩) (by assumption) ?_
              case hy5 => (intro w hSw; (try dsimp only at hSw); go_simp; try with_reducible rfl)
              try simp only [Act.put, List.getElem_toArray, List.getElem_cons_zero, List.getElem_cons_succ, List.setIfInBounds_toArray, List.set_cons_zero, List.set_cons_succ]
              refine wpAnyH_ready (rs := [6]) (by kernel_rfl) (by simp) ?_
              refine AllReadyH.cons rfl (fun K hK => ?_) AllReadyH.nil
              go_simp
              go_wp2_with fail
              refine (CL.out (Option.map (fun x => x.add i) a) a' (n - i) (c - i) 0 0 _ ((H.out.on (Below.on HO.out.bel hHeld)).cut hin) (H'.out.on (Below.on HO.out.bel hHeld)).cut0).mono ?_
              rintro e u27 ⟨rfl, q27, rfl⟩
              replace hHeld := below_drewN hHeld q27
              refine hK.out _ _ hHeld (fun _ => ?_)
              clear hK K
              refine wpAnyH_take (i := 7) (v := ?_) rfl (by kernel_rfl) (by kernel_rfl) (by kernel_rfl) (fun _ _ _ h => h) (Or.inl ⟨by kernel_rfl, ?hy7⟩) (by assumption) ?_
              case hy7 => (intro w hSw; (try dsimp only at hSw); go_simp; try with_reducible rfl)
              try simp only [Act.put, List.getElem_toArray, List.getElem_cons_zero, List.getElem_cons_succ, List.setIfInBounds_toArray, List.set_cons_zero, List.set_cons_succ]
              refine wpAnyH_done (by kernel_rfl) ?_ _
              go_wp2_with fail
              go_meet
              exact ⟨rfl, hHeld⟩
            · -- x
              refine wp_region_held_drew (S := fun x => Below wc.heap.size wc x) (by kernel_rfl) (Below.refl _ _).drew (fun hHeld => ?_)
              have hHeld : Below wc.heap.size wc wc.drew := hHeld
              refine wpAnyH_take (i := 0) (v := ?_) rfl (by kernel_rfl) (by kernel_rfl) (by kernel_rfl) (fun _ _ _ h => h) (Or.inl ⟨by kernel_rfl, ?hy0⟩) (by assumption) ?_
              case hy0 => (intro w hSw; (try dsimp only at hSw); go_simp; try with_reducible rfl)
              try simp only [Act.put, List.getElem_toArray, List.getElem_cons_zero, List.setIfInBounds_toArray, List.set_cons_zero, List.set_cons_succ]
              refine wpAnyH_take (i := 1) (v := ?_) rfl (by kernel_rfl) (by kernel_rfl) (by kernel_rfl) (fun _ _ _ h => h) (Or.inl ⟨by kernel_rfl, ?hy1⟩) (by assumption) ?_
              case hy1 => (intro w hSw; (try dsimp only at hSw); go_simp; try with_reducible rfl)
              try simp only [Act.put, List.getElem_toArray, List.getElem_cons_zero, List.getElem_cons_succ, List.setIfInBounds_toArray, List.set_cons_zero, List.set_cons_succ]
              refine wpAnyH_take (i := 2) (v := ?_) rfl (by kernel_rfl) (by kernel_rfl) (by kernel_rfl) (fun _ _ _ h => h) (Or.inl ⟨by kernel_rfl, ?hy2⟩) (by assumption) ?_
              case hy2 => (intro w hSw; (try dsimp only at hSw); go_simp; try with_reducible rfl)
              try simp only [Act.put, List.getElem_toArray, List.getElem_cons_zero, List.getElem_cons_succ, List.setIfInBounds_toArray, List.set_cons_zero, List.set_cons_succ]
              refine wpAnyH_take (i := 3) (v := ?_) rfl (by kernel_rfl) (by kernel_rfl) (by kernel_rfl) (fun _ _ _ h => h) (Or.inl ⟨by kernel_rfl, ?hy3⟩) (by assumption) ?_
              case hy3 => (intro w hSw; (try dsimp only at hSw); go_simp; try with_reducible rfl)
              try simp only [Act.put, List.getElem_toArray, List.getElem_cons_zero, List.getElem_cons_succ, List.setIfInBounds_toArray, List.set_cons_zero, List.set_cons_succ]
              refine wpAnyH_take (i := 4) (v := ?_) rfl (by kernel_rfl) (by kernel_rfl) (by kernel_rfl) (fun _ _ _ h => h) (Or.inl ⟨by kernel_rfl, ?hy4⟩) (by assumption) ?_
              case hy4 => (intro w hSw; (try dsimp only at hSw); go_simp; try with_reducible rfl)
              try simp only [Act.put, List.getElem_toArray, List.getElem_cons_zero, List.getElem_cons_succ, List.setIfInBounds_toArray, List.set_cons_zero, List.set_cons_succ]
              refine wpAnyH_take (i := 5) (v := ?_) rfl (by kernel_rfl) (by kernel_rfl) (by kernel_rfl) (fun _ _ _ h => h) (Or.inl ⟨by kernel_rfl, ?hy5⟩) (by assumption) ?_
              case hy5 => (intro w hSw; (try dsimp only at hSw); go_simp; try with_reducible rfl)
              try simp only [Act.put, List.getElem_toArray, List.getElem_cons_zero, List.getElem_cons_succ, List.setIfInBounds_toArray, List.set_cons_zero, List.set_cons_succ]
              refine wpAnyH_ready (rs := [6]) (by kernel_rfl) (by simp) ?_
              refine AllReadyH.cons rfl (fun K hK => ?_) AllReadyH.nil
              go_simp
              go_wp2_with fail
              refine (CL.out (Option.map (fun x => x.add i) a) (Option.map (fun x => x.add j) a') (n - i) (c - i) (n' - j) (c' - j) _ ((H.out.on (Below.on HO.out.bel hHeld)).cut hin) ((H'.out.on (Below.on HO.out.bel hHeld)).cut hjn)).mono ?_
              rintro e u27 ⟨rfl, q27, rfl⟩
              replace hHeld := below_drewN hHeld q27
              refine hK.out _ _ hHeld (fun _ => ?_)
              clear hK K
              refine wpAnyH_take (i := 7) (v := ?_) rfl (by kernel_rfl) (by kernel_rfl) (by kernel_rfl) (fun _ _ _ h => h) (Or.inl ⟨by kernel_rfl, ?hy7⟩) (by assumption) ?_
              case hy7 => (intro w hSw; (try dsimp only at hSw); go_simp; try with_reducible rfl)
              try simp only [Act.put, List.getElem_toArray, List.getElem_cons_zero, List.getElem_cons_succ, List.setIfInBounds_toArray, List.set_cons_zero, List.set_cons_succ]
              refine wpAnyH_done (by kernel_rfl) ?_ _
              go_wp2_with fail
              go_meet
              exact ⟨rfl, hHeld⟩
        case rest =>
          obtain ⟨rfl, hb2⟩ := hcut
          have HO2 := hid (HO.out.on hb2)
          clear HO hb2 CL
          obtain ⟨p1, hp1⟩ : ∃ p1, p1 = tk1 (A.drop i) (B.drop j) := ⟨_, rfl⟩
          obtain ⟨p2, hp2⟩ : ∃ p2, p2 = tk1 (B.drop j) (A.drop i) := ⟨_, rfl⟩
          have HP1 := hid hp1
          have HP2 := hid hp2
          clear hp1 hp2
          go_upto_region 5 with fail
          go_cut [39] from 11 to 69 (fun v wx => v = .bool p1 ∧ wx = wc)
          case first =>
            by_cases h1 : i < n
            · have e1 : decide (i < n) = true := decide_eq_true h1
              have e2 : (i : Int) < n := by omega
              obtain ⟨b, off, x, rfl, _, hx, c0⟩ := (H.out.on HO2.out.bel).el h1
              have HT : Hid ((x == X) = p1) := by rw [Hid, HP1.out, HX.out, drop_at hx]; rfl
              have hT := HT.out
              clear hx HT
              go_wp2_with fail
              go_meet
              exact ⟨rfl, rfl⟩
            · have e1 : decide (i < n) = false := decide_eq_false h1
              have HT : Hid (p1 = false) := by rw [Hid, HP1.out, List.drop_eq_nil_of_le (by rw [HL.out]; omega)]; rfl
              go_wp2_with fail
              go_meet
              exact ⟨by rw [HT.out], rfl⟩
          case rest =>
          obtain ⟨rfl, rfl⟩ := hcut
          go_upto_if 39 with fail
          go_cut [8] from 11 to 69 (fun v wx => v = .int .i64 (up i p1) ∧ wx = wc)
          case first =>
            cases p1
            · go_wp2_with fail
              go_meet
              exact ⟨rfl, rfl⟩
            · go_wp2_with fail
              go_meet
              exact ⟨by simp [up], rfl⟩
          case rest =>
          obtain ⟨rfl, rfl⟩ := hcut
          go_upto_region 7 with fail
          go_cut [53] from 11 to 69 (fun v wx => v = .bool p2 ∧ wx = wc)
          case first =>
            by_cases h1 : j < n'
            · have e1 : decide (j < n') = true := decide_eq_true h1
              have e2 : (j : Int) < n' := by omega
              obtain ⟨b, off, x, rfl, _, hx, c0⟩ := (H'.out.on HO2.out.bel).el h1
              have HT : Hid ((x == X) = p2) := by rw [Hid, HP2.out, HX.out, lst_comm, drop_at hx]; rfl
              have hT := HT.out
              clear hx HT
              go_wp2_with fail
              go_meet
              exact ⟨rfl, rfl⟩
            · have e1 : decide (j < n') = false := decide_eq_false h1
              have HT : Hid (p2 = false) := by rw [Hid, HP2.out, List.drop_eq_nil_of_le (by rw [HL'.out]; omega)]; rfl
              go_wp2_with fail
              go_meet
              exact ⟨by rw [HT.out], rfl⟩
          case rest =>
          obtain ⟨rfl, rfl⟩ := hcut
          go_upto_if 53 with fail
          go_cut [9] from 11 to 69 (fun v wx => v = .int .i64 (up j p2) ∧ wx = wc)
          case first =>
            cases p2
            · go_wp2_with fail
              go_meet
              exact ⟨rfl, rfl⟩
            · go_wp2_with fail
              go_meet
              exact ⟨by simp [up], rfl⟩
          case rest =>
          obtain ⟨rfl, rfl⟩ := hcut
          have HI : Hid (up i p1 ≤ n ∧ up j p2 ≤ n' ∧ i + j + 1 ≤ up i p1 + up j p2) := by
            have b1 : p1 = true → i < n := fun e => by
              rcases Nat.lt_or_ge i n with h | h
              · exact h
              · rw [HP1.out, List.drop_eq_nil_of_le (by rw [HL.out]; exact h)] at e; cases e
            have b2 : p2 = true → j < n' := fun e => by
              rcases Nat.lt_or_ge j n' with h | h
              · exact h
              · rw [HP2.out, List.drop_eq_nil_of_le (by rw [HL'.out]; exact h)] at e; cases e
            have b3 : p1 = true ∨ p2 = true := by rw [HP1.out, HP2.out]; exact tk1_some HN.out
            rw [Hid]
            unfold up
            cases p1 <;> cases p2 <;> simp at b1 b2 b3 ⊢ <;> omega
          obtain ⟨i', hi'⟩ : ∃ i', i' = up i p1 := ⟨_, rfl⟩
          obtain ⟨j', hj'⟩ : ∃ j', j' = up j p2 := ⟨_, rfl⟩
          have HMl := hid HM.out.le
          have HS := hid (HM.out.step HN.out i' j' (by rw [hi', HP1.out]) (by rw [hj', HP2.out]) (by rw [hi', hj']; exact HI.out.2.2))
          rw [← HX.out] at HS
          rw [← hi', ← hj'] at HI ⊢
          clear hi' hj' HP1 HP2 HN HX HM
          obtain ⟨b1, b2, b3⟩ := HI.out
          have C1 := hid (fun u => odd_any i' u)
          have C2 := hid (fun u => odd_any j' u)
          have C3 := hid (fun u => odd_any E.length u)
          have C4 := hid (fun u => HG.out.run (od i') (od j') u)
          obtain ⟨av, cv, hv, hEr⟩ := rdj_of_owns HO2.out.own
          have hEl := hEr.small
          subst hv
          clear hEr
          go_wp2_with fail
          refine (C1.out _).mono ?_
          rintro e w1 ⟨rfl, rfl⟩
          go_wp2_with fail
          refine (C2.out _).mono ?_
          rintro e w2 ⟨rfl, rfl⟩
          go_wp2_with fail
          refine (C4.out _).mono ?_
          rintro e w2 ⟨rfl, rfl⟩
          go_wp2_with fail
          refine (C3.out _).mono ?_
          rintro e w2 ⟨rfl, rfl⟩
          have HOW := hid (HO2.out.own.alloc (.cells #[.int .i64 X] 3))
          have HSR := hid (src1 w2 X)
          have HSZ := (HO2.out.on (below_new _ (.cells #[.int .i64 X] 3))).size
          have hlen : E.length ≤ 3000000 := by
            rcases Nat.lt_or_ge 3000000 E.length with h | h
            · exfalso
              have h2 : E.length ≤ i + j := HMl.out
              omega
            · exact h
          have HA : Hid (∀ v' w', w'.ownsRow w.heap.size 3 1 v' (E.length + 1) (nums E ++ nums [X]) → (w2.alloc (.cells #[.int .i64 X] 3)).grownBy w' (Value.slice av E.length cv).ownBlock → OwJ w w' v' (E ++ [X])) := fun v' w' o g => HO2.out.grown o g
          clear C1 C2 C3 C4
          generalize f (od i') (od j') = r1 at HS ⊢
          generalize od E.length = r2 at HS ⊢
          cases r1 <;> cases r2
          · have HM2 := hid (HS.out.1 rfl)
            clear HOW HSR HSZ HA
            go_wp2
            go_roundw
            case rel => exact ⟨i', j', E, rfl, rfl, b1, b2, HM2.out, HO2.out⟩
            case measure => simp [numOf]; omega
          · have HM2 := hid (HS.out.2 (by decide))
            go_wp2_with (at_builtin; refine wpList_append_own_src _ rfl (.tmp 66) (.tmp 68) 99 99 rfl w.heap.size 3 i0 (.int .i64 0) 1 8 Tryd.underlying99 hi hz0 hz1 hz2 rfl _ _ _ rfl HOW.out _ _ _ rfl HSR.out (by simp only [maxLen]; omega) (fitsI (by omega)) HSZ ?_; intro v3 w3 o3 g3; have H3 := hid (HA.out _ _ o3 g3); clear o3 g3 HA HOW HSR HSZ)
            go_wp2
            go_roundw
            case rel => exact ⟨i', j', E ++ [X], rfl, rfl, b1, b2, HM2.out, H3.out⟩
            case measure => simp [numOf]; omega
          · have HM2 := hid (HS.out.2 (by decide))
            go_wp2_with (at_builtin; refine wpList_append_own_src _ rfl (.tmp 66) (.tmp 68) 99 99 rfl w.heap.size 3 i0 (.int .i64 0) 1 8 Tryd.underlying99 hi hz0 hz1 hz2 rfl _ _ _ rfl HOW.out _ _ _ rfl HSR.out (by simp only [maxLen]; omega) (fitsI (by omega)) HSZ ?_; intro v3 w3 o3 g3; have H3 := hid (HA.out _ _ o3 g3); clear o3 g3 HA HOW HSR HSZ)
            go_wp2
            go_roundw
            case rel => exact ⟨i', j', E ++ [X], rfl, rfl, b1, b2, HM2.out, H3.out⟩
            case measure => simp [numOf]; omega
          · have HM2 := hid (HS.out.1 rfl)
            clear HOW HSR HSZ HA
            go_wp2
            go_roundw
            case rel => exact ⟨i', j', E, rfl, rfl, b1, b2, HM2.out, HO2.out⟩
            case measure => simp [numOf]; omega
    · have e1 : decide ((i : Int) < n) = false := decide_eq_false (by omega)
      have e2 : decide ((j : Int) < n') = false := decide_eq_false (by omega)
      have HE : Hid (E = mix f false false false A B) := by
        have := HM.out.eq
        rw [List.drop_eq_nil_of_le (by rw [HL.out]; omega), List.drop_eq_nil_of_le (by rw [HL'.out]; omega), mix_nil, List.append_nil] at this
        exact this
      go_wp2
      go_ret
      rw [← HE.out]
      exact ⟨_, rfl, HO.out⟩
end Go.Proofs.YtmiapccngeafkaaDoor

/- The contract of the program's bands. -/
namespace Go.Proofs.YtmiapccngeafkaaDoor
open Go Go.RowKit

theorem step_append_own_src {P : Program} {ops : Array Oper} {o : Oper} {a : Act} {w : World} {K : Act → World → Prop} {Q : Exit → Act → World → Prop} {E : Prop}
    (hg : o.guard = none) (s x : Operand) (t tx : TypeId) (hop : o.op = .call { callee := .builtin .append, args := #[s, x], argTypes := #[t, tx] })
    (base : Nat) (e : TypeId) (i : TypeInfo) (z : Value) (size bytes : Nat) (ht : P.underlying t = some (.slice e)) (hi : P.info? e = some i) (hz : i.zero = some z)
    (hsize : i.size = size) (hby : i.bytes = bytes) (hzs : z.cells.size = size)
    (v : Value) (n : Nat) (xs : List Value) (hs : a.eval s = v) (hown : w.ownsRow base e size v n xs)
    (xv : Value) (m : Nat) (news : List Value) (hx : a.eval x = xv) (hsrc : Src P size tx xv m news w)
    (h63 : n + m ≤ maxLen) (hbytes : ∀ old, old < n + m → Builtin.nextslicecap (n + m) old * bytes ≤ 281474976710656) (hbase : base ≤ w.heap.size)
    (h : ∀ v' w', w'.ownsRow base e size v' (n + m) (xs ++ news) → w.grownBy w' v.ownBlock → K (a.put o.dst v') w') :
    if Region.wanted o (yielded ops a.tmps) = true then Oper.wp P o a w K Q else E := by
  have hw : Region.wanted o (yielded ops a.tmps) = true := by simp [Region.wanted, hg]
  rw [if_pos hw]
  obtain ⟨v', w', hr, h2, h3⟩ := run_append_own_src (P := P) w base t tx o.type e i z size bytes ht hi hz hsize hby hzs v n xs hown xv m news hsrc h63 hbytes hbase
  unfold Oper.wp
  simp [execOp, hop, resolve, invoke, builtin, hs, hx, hr, Result.andThen]
  exact h v' w' h2 h3

/-- A row in memory: its line and its edges. -/
structure Rw (u : World) (b o : Nat) (r : Int × List Int) : Prop where
  lt : b < u.heap.size
  c0 : u.cell? ⟨b, o, none⟩ = some (.int .i64 r.1)
  c1 : ∃ a c, u.cell? ⟨b, o + 1, none⟩ = some (.slice a r.2.length c) ∧ RdJ u a r.2.length c r.2

theorem Rw.on {w u : World} {b o : Nat} {r : Int × List Int} (h : Rw w b o r) (hb : Below w.heap.size w u) : Rw u b o r :=
  ⟨Nat.lt_of_lt_of_le h.lt hb.size, by rw [hb.cell h.lt]; exact h.c0, by
    obtain ⟨a, c, h1, h2⟩ := h.c1
    exact ⟨a, c, by rw [hb.cell h.lt]; exact h1, h2.on hb⟩⟩

/-- A slice of rows. -/
structure RdW (w : World) (a : Option Addr) (n c : Nat) (l : List (Int × List Int)) : Prop where
  len : l.length = n
  le : n ≤ c
  max : c ≤ maxLen
  hnil : a = none → c = 0
  pl : 0 < n → ∃ b off, a = some ⟨b, off, none⟩ ∧ b < w.heap.size ∧ ∀ j r, l[j]? = some r → Rw w b (off + j * 2) r
theorem RdW.on {w u : World} {a : Option Addr} {n c : Nat} {l : List (Int × List Int)} (h : RdW w a n c l) (hb : Below w.heap.size w u) : RdW u a n c l :=
  ⟨h.len, h.le, h.max, h.hnil, fun hn => by
    obtain ⟨b, off, e, h1, h2⟩ := h.pl hn
    exact ⟨b, off, e, Nat.lt_of_lt_of_le h1 hb.size, fun j r hr => (h2 j r hr).on hb⟩⟩
theorem RdW.small {w : World} {a : Option Addr} {n c : Nat} {l : List (Int × List Int)} (h : RdW w a n c l) : n ≤ 9223372036854775807 ∧ c ≤ 9223372036854775807 := by
  have h1 := h.le
  have h2 := h.max
  simp only [maxLen] at h2
  omega
theorem RdW.el {w : World} {a : Option Addr} {n c : Nat} {l : List (Int × List Int)} (h : RdW w a n c l) {j : Nat} (hj : j < n) : ∃ b off r, a = some ⟨b, off, none⟩ ∧ b < w.heap.size ∧ l[j]? = some r ∧ Rw w b (off + j * 2) r := by
  have hl := h.len
  obtain ⟨b, off, e, h1, h2⟩ := h.pl (by omega)
  have hr : l[j]? = some l[j] := List.getElem?_eq_getElem (by omega)
  exact ⟨b, off, _, e, h1, hr, h2 j _ hr⟩

/-- A row of rectangles of the call's own. -/
structure OwC (w u : World) (v : Value) (l : List Rc) : Prop where
  own : u.ownsRow w.heap.size 24 4 v l.length (rccs l)
  bel : Below w.heap.size w u
theorem OwC.on {w u u' : World} {v : Value} {l : List Rc} (h : OwC w u v l) (hb : Below u.heap.size u u') : OwC w u' v l := ⟨ownsRow_below h.own hb, Below.on h.bel hb⟩
theorem OwC.base {w w0 u : World} {v : Value} {l : List Rc} (h : OwC w u v l) (hb : Below w0.heap.size w0 w) : OwC w0 u v l := ⟨ownsRow_low h.own hb.size, Below.on hb h.bel⟩
theorem OwC.size {w u : World} {v : Value} {l : List Rc} (h : OwC w u v l) : w.heap.size ≤ u.heap.size := h.bel.size
theorem OwC.grown {w u u' : World} {v v' : Value} {l m : List Rc} (h : OwC w u v l) (o2 : u'.ownsRow w.heap.size 24 4 v' (l.length + m.length) (rccs l ++ rccs m)) (g : u.grownBy u' v.ownBlock) : OwC w u' v' (l ++ m) :=
  ⟨by rw [List.length_append, rccs_append]; exact o2, h.bel.grown g h.bel.size (fun k hk => (h.own.lt k hk).1)⟩
theorem OwC.nil (w : World) : OwC w w (.slice none 0 0) [] := ⟨World.ownsRow_nil _ _ _ _, Below.refl _ _⟩
theorem OwC.ret {w u : World} {v : Value} {l : List Rc} (h : OwC w u v l) (ok : ∀ r ∈ l, r.Ok) : Ret w l (.returned v) u := by
  obtain ⟨a, c, rfl, hr⟩ := rdc_of_owns h.own ok
  exact ⟨a, c, rfl, hr, h.bel⟩
theorem srcR (w : World) (r : Rc) : Src Tryd.prog 4 29 (.slice (some ⟨w.heap.size, 0, none⟩) 1 1) 1 (rccs [r]) (w.alloc (.cells #[.int .i64 r.x, .int .i64 r.y, .int .i64 r.w, .int .i64 r.h] 24)) :=
  Src.ofSlice (P := Tryd.prog) _ Tryd.underlying29 ⟨w.heap.size, 0, none⟩ 1 1 (rccs [r]) rfl (fun q u hu => by
    match q, hu with
    | 0, hu => cases hu; simp [Addr.add]
    | 1, hu => cases hu; simp [Addr.add]
    | 2, hu => cases hu; simp [Addr.add]
    | 3, hu => cases hu; simp [Addr.add]
    | q + 4, hu => simp [rccs, rcc] at hu) (rccs_one _)

/-- What the rows ahead of i are, with those of row i ahead of edge k. -/
theorem prs_snoc {y h : Int} {e : List Int} {k : Nat} {p q : Int} (hp : e[2 * k]? = some p) (hq : e[2 * k + 1]? = some q) : prs y h (e.take (2 * (k + 1))) = prs y h (e.take (2 * k)) ++ [⟨p, y, q - p, h⟩] := by
  have hl : 2 * k + 1 < e.length := (List.getElem?_eq_some_iff.1 hq).1
  rw [show 2 * (k + 1) = 2 * k + 1 + 1 by omega, List.take_add_one, List.take_add_one, hp, hq, List.append_assoc, prs_append _ (by rw [List.length_take]; omega)]
  rfl
theorem bnds_snoc {l : List (Int × List Int)} {i : Nat} {r s : Int × List Int} (hr : l[i]? = some r) (hs : l[i + 1]? = some s) : bnds (l.take (i + 1 + 1)) = bnds (l.take (i + 1)) ++ prs r.1 (s.1 - r.1) r.2 := by
  induction l generalizing i with
  | nil => simp at hr
  | cons x l ih =>
    cases l with
    | nil => simp at hs
    | cons z l =>
      cases i with
      | zero =>
        simp only [List.getElem?_cons_zero, List.getElem?_cons_succ, Option.some.injEq] at hr hs
        subst hr hs
        simp [bnds]
      | succ i =>
        rw [List.getElem?_cons_succ] at hr hs
        have ih' : bnds (z :: l.take (i + 1)) = bnds (z :: l.take i) ++ prs r.1 (s.1 - r.1) r.2 := ih hr hs
        show bnds (x :: z :: l.take (i + 1)) = bnds (x :: z :: l.take i) ++ _
        obtain ⟨y, e⟩ := x
        obtain ⟨y', e'⟩ := z
        rw [bnds, bnds, ih', List.append_assoc]

theorem prs_len (y h : Int) : ∀ e : List Int, (prs y h e).length ≤ e.length
  | [] => by simp [prs]
  | [_] => by simp [prs]
  | _ :: _ :: t => by rw [prs, List.length_cons, List.length_cons, List.length_cons]; have := prs_len y h t; omega
theorem bnds_len {M : Nat} : ∀ {l : List (Int × List Int)}, (∀ r ∈ l, r.2.length ≤ M) → (bnds l).length ≤ l.length * M
  | [], _ => by simp [bnds]
  | [_], _ => by simp [bnds]
  | (y, e) :: (y', e') :: t, h => by
    have h1 := h (y, e) (by simp)
    have h2 := bnds_len (l := (y', e') :: t) fun r hr => h r (by simp [hr])
    have h3 := prs_len y (y' - y) e
    rw [bnds, List.length_append, show ((y, e) :: (y', e') :: t).length = ((y', e') :: t).length + 1 from rfl, Nat.add_mul]
    simp only at h1
    omega

/-- A block of another type is not the row's. -/
theorem own_ne {u : World} {base e size n p : Nat} {v : Value} {xs : List Value} {cs : Array Value} {T : TypeId} (h : u.ownsRow base e size v n xs) (hp : u.heap[p]? = some (.cells cs T (0, 0))) (hT : T ≠ e) : some p ≠ v.ownBlock := by
  rcases h.2 with ⟨rfl, _⟩ | ⟨g, cap, cur, rfl, _, hg, _⟩
  · simp [Value.ownBlock]
  · intro e'
    simp only [Value.ownBlock, Option.some.injEq] at e'
    subst e'
    rw [hp] at hg
    simp only [Option.some.injEq, Obj.cells.injEq] at hg
    exact hT hg.2.1

/-- A row in a block of its own; and a number somewhere. -/
structure RB (u : World) (p : Nat) (y : Int) (v : Value) : Prop where
  obj : u.heap[p]? = some (.cells #[.int .i64 y, v] 106 (0, 0))
theorem RB.on {u u' : World} {p : Nat} {y : Int} {v : Value} (h : RB u p y v) (hb : Below u.heap.size u u') : RB u' p y v := ⟨by rw [hb.block p (Array.getElem?_eq_some_iff.1 h.obj).1]; exact h.obj⟩
theorem RB.all {u : World} {p : Nat} {y : Int} {v : Value} (h : RB u p y v) : u.cell? ⟨p, 0, none⟩ = some (.int .i64 y) ∧ u.cell? ⟨p, 1, none⟩ = some v ∧ True ∧ True := by
  refine ⟨?_, ?_, trivial, trivial⟩ <;> (rw [World.cell?, h.obj]; rfl)
structure CI (u : World) (b o : Nat) (y : Int) : Prop where
  lt : b < u.heap.size
  c : u.cell? ⟨b, o, none⟩ = some (.int .i64 y)
theorem CI.on {u u' : World} {b o : Nat} {y : Int} (h : CI u b o y) (hb : Below u.heap.size u u') : CI u' b o y := ⟨Nat.lt_of_lt_of_le h.lt hb.size, by rw [hb.cell h.lt]; exact h.c⟩
theorem CI.all {u : World} {b o : Nat} {y : Int} (h : CI u b o y) : u.cell? ⟨b, o, none⟩ = some (.int .i64 y) ∧ True ∧ True ∧ True := ⟨h.c, trivial, trivial, trivial⟩
theorem prs_two {y h : Int} {e : List Int} {k : Nat} {p q : Int} (h2 : k % 2 = 0) (hp : e[k]? = some p) (hq : e[k + 1]? = some q) : prs y h (e.take (k + 2)) = prs y h (e.take k) ++ [⟨p, y, q - p, h⟩] := by
  obtain ⟨m, rfl⟩ : ∃ m, k = 2 * m := ⟨k / 2, by omega⟩
  exact prs_snoc hp hq

set_option maxRecDepth 100000 in
set_option maxHeartbeats 2000000 in
theorem bands_any (a : Option Addr) (n c : Nat) (l : List (Int × List Int)) (w : World) (h : RdW w a n c l) (hev : ∀ r ∈ l, r.2.length % 2 = 0) (hlast : ∀ j r, l[j]? = some r → r.2 ≠ [] → j + 1 < l.length) (hy : ∀ r ∈ l, -16777216 ≤ r.1 ∧ r.1 ≤ 16777216) (hx : ∀ r ∈ l, ∀ x ∈ r.2, -16777216 ≤ x ∧ x ≤ 16777216) (hn : n ≤ 20000) (hm : ∀ r ∈ l, r.2.length ≤ 20000) :
    Calls Tryd.prog 72 #[.slice a n c] w fun e w' => ∃ v, e = .returned v ∧ OwC w w' v (bnds l) := by
  have H := hid h
  have HL := hid h.len
  have hs := h.small
  have HEV := hid hev
  have HLA := hid hlast
  have HY := hid hy
  have HX := hid hx
  have HM := hid hm
  obtain ⟨i0, hi, hz0, hz1, hz2⟩ := info3 infoC
  clear h hev hlast hy hx hm
  go_enter Tryd.func72, Tryd.ntmps72
  go_wp2
  go_loopw [3, 11] (fun v x wr => ∃ i : Nat, x = .int .i64 i ∧ i ≤ n ∧ OwC w wr v (bnds (l.take (i + 1)))) (fun _ x _ => n - (numOf x).toNat)
  case atStart =>
    refine ⟨0, rfl, by omega, ?_⟩
    have : bnds (l.take (0 + 1)) = [] := by
      cases l with
      | nil => rfl
      | cons x l => rfl
    rw [this]
    exact OwC.nil w
  case round =>
    obtain ⟨i, rfl, hin, hO⟩ := hrel
    have HO := hid hO
    clear hO
    by_cases hgo : i < n
    · have e1 : decide ((i : Int) < n) = true := decide_eq_true (by omega)
      obtain ⟨b, off, r, rfl, _, hr, hw0⟩ := H.out.el hgo
      obtain ⟨ae, ce, hc1, hre⟩ := hw0.c1
      have c0 := hw0.c0
      have hlt := hw0.lt
      rw [← HO.out.bel.cell hlt] at c0 hc1
      have HR := hid hr
      have HRE := hid hre
      have hsm := hre.small
      obtain ⟨ry, re⟩ := r
      simp only at c0 hc1 HRE hsm
      have hmem := List.mem_of_getElem? hr
      have hy1 := HY.out _ hmem
      have hev1 := HEV.out _ hmem
      have hm1 := HM.out _ hmem
      have HX1 := hid (HX.out _ hmem)
      simp only at hy1 hev1 hm1 HX1
      have HN : Hid (∃ hh, (bnds (l.take (i + 1 + 1)) = bnds (l.take (i + 1)) ++ prs ry hh re) ∧ (re ≠ [] → ∃ s, l[i + 1]? = some s ∧ i + 1 < n ∧ hh = s.1 - ry)) := by
        rw [Hid]
        by_cases he : i + 1 < l.length
        · exact ⟨_, bnds_snoc hr (List.getElem?_eq_getElem he), fun _ => ⟨_, List.getElem?_eq_getElem he, by rw [← HL.out]; exact he, rfl⟩⟩
        · have hre0 : re = [] := Classical.byContradiction fun hne => he (HLA.out i _ hr hne)
          refine ⟨0, ?_, fun hne => absurd hre0 hne⟩
          rw [hre0, List.take_of_length_le (by omega), List.take_of_length_le (by omega)]
          simp [prs]
      obtain ⟨hh, hb1, hb2⟩ := HN.out
      have HB1 := hid hb1
      have HB2 := hid hb2
      have HBL : Hid (∀ m, (bnds (l.take (i + 1)) ++ prs ry hh (re.take m)).length ≤ 600000000) := fun m => by
        rw [List.length_append]
        have h1 := bnds_len (M := 20000) (l := l.take (i + 1)) fun r hr => HM.out r (List.mem_of_mem_take hr)
        have h2 := prs_len ry hh (re.take m)
        rw [List.length_take] at h1 h2
        have h3 : min (i + 1) l.length * 20000 ≤ 20001 * 20000 := Nat.mul_le_mul_right _ (by omega)
        omega
      clear hb1 hb2 hr hre hw0 HN hmem
      generalize bnds (l.take (i + 1)) = B0 at HO HB1 HBL
      go_wp2
      have HBX : Hid (RB (wr.alloc (.cells #[.int .i64 ry, .slice ae re.length ce] 106)) wr.heap.size ry (.slice ae re.length ce)) := ⟨heap_alloc_new wr _⟩
      have HO1 := hid (HO.out.on (below_new wr (.cells #[.int .i64 ry, .slice ae re.length ce] 106)))
      obtain ⟨P, hP⟩ : ∃ P, P = wr.heap.size := ⟨_, rfl⟩
      rw [← hP] at HBX ⊢
      generalize wr.alloc (.cells #[.int .i64 ry, .slice ae re.length ce] 106) = w1 at HBX HO1 ⊢
      clear HO hP c0 hc1
      go_loopw [3, 6] (fun v x wi => ∃ k : Nat, x = .int .i64 k ∧ k % 2 = 0 ∧ k ≤ re.length ∧ RB wi P ry (.slice ae re.length ce) ∧ OwC w wi v (B0 ++ prs ry hh (re.take k))) (fun _ x _ => re.length - (numOf x).toNat)
      case atStart => exact ⟨0, rfl, rfl, by omega, HBX.out, by rw [List.take_zero, show prs ry hh [] = [] from rfl, List.append_nil]; exact HO1.out⟩
      case round =>
        obtain ⟨k, rfl, hk2, hkl, hbx, hO⟩ := hrel
        have HBX2 := hid hbx
        have HO2 := hid hO
        obtain ⟨t0, t1, _, _⟩ := hbx.all
        clear hbx hO HBX HO1
        by_cases hgo2 : k < re.length
        · have e2 : decide ((k : Int) < re.length) = true := decide_eq_true (by omega)
          have hk1 : k + 1 < re.length := by omega
          have hk3 : (k : Int) < re.length := by omega
          have hk4 : (k : Int) + 1 < re.length := by omega
          obtain ⟨be, oe, rfl, hbe, hce⟩ := (HRE.out.on HO2.out.bel).pl (by omega)
          obtain ⟨p, hp⟩ : ∃ p, re[k]? = some p := ⟨_, List.getElem?_eq_getElem hgo2⟩
          obtain ⟨q, hq⟩ : ∃ q, re[k + 1]? = some q := ⟨_, List.getElem?_eq_getElem hk1⟩
          have d0 := hce k p hp
          have d1 := hce (k + 1) q hq
          obtain ⟨s, hsi, hi1, hhs⟩ := HB2.out (fun e => by rw [e] at hgo2; simp at hgo2)
          obtain ⟨b', off', s', hbo, _, hs', hws⟩ := (H.out.on HO2.out.bel).el hi1
          simp only [Option.some.injEq, Addr.mk.injEq, and_true] at hbo
          obtain ⟨rfl, rfl⟩ := hbo
          rw [hsi] at hs'
          cases hs'
          have HCI : Hid (CI wr b (off + (i + 1) * 2) s.1) := ⟨hws.lt, hws.c0⟩
          have HCP : Hid (CI wr be (oe + k) p) := ⟨hbe, d0⟩
          have HCQ : Hid (CI wr be (oe + (k + 1)) q) := ⟨hbe, d1⟩
          have hsy := HY.out s (List.mem_of_getElem? hsi)
          have hpx := HX1.out p (List.mem_of_getElem? hp)
          have hqx := HX1.out q (List.mem_of_getElem? hq)
          have HSN := hid (prs_two (y := ry) (h := hh) hk2 hp hq)
          have f1 : IntKind.i64.wrap (q - p) = q - p := by rw [IntKind.wrap_i64]; omega
          have f2 : IntKind.i64.wrap (s.1 - ry) = hh := by rw [IntKind.wrap_i64, hhs]; omega
          have f3 : IntKind.i64.wrap ((k : Int) + 1) = (k : Int) + 1 := by rw [IntKind.wrap_i64]; omega
          have f4 : IntKind.i64.wrap ((i : Int) + 1) = (i : Int) + 1 := by rw [IntKind.wrap_i64]; omega
          have f5 : (i : Int) + 1 < n := by omega
          have f6 : (0 : Int) ≤ (i : Int) + 1 := by omega
          have f7 : (0 : Int) ≤ (k : Int) + 1 := by omega
          have HLEN := HBL.out k
          clear hce hp hq hsi hws hhs
          go_upto_region 8 with fail
          clear t0 t1 d0 d1
          go_cut [7, 8] from 16 to 52 (fun x y wx => x = .int .i64 p ∧ y = .int .i64 q ∧ RowKit.Below wr.heap.size wr wx)
          case first =>
            refine wp_region_held_drew (S := fun x => Below wr.heap.size wr x) (by kernel_rfl) (Below.refl _ _).drew (fun hHeld => ?_)
            have hHeld : Below wr.heap.size wr wr.drew := hHeld
            refine wpAnyH_take (i := 0) (v := ?_) rfl (by kernel_rfl) (by kernel_rfl) (by kernel_rfl) (fun _ _ _ h => h) (Or.inl ⟨by kernel_rfl, ?hy0⟩) (by assumption) ?_
            case hy0 => (intro w hSw; (try dsimp only at hSw); obtain ⟨t00, t01, t02, t03⟩ := (HBX2.out.on hSw).all; obtain ⟨t10, t11, t12, t13⟩ := (HCP.out.on hSw).all; obtain ⟨t20, t21, t22, t23⟩ := (HCQ.out.on hSw).all; go_simp; try with_reducible rfl)
            try simp only [Act.put, List.getElem_toArray, List.getElem_cons_zero, List.setIfInBounds_toArray, List.set_cons_zero, List.set_cons_succ]
            refine wpAnyH_take (i := 1) (v := ?_) rfl (by kernel_rfl) (by kernel_rfl) (by kernel_rfl) (fun _ _ _ h => h) (Or.inl ⟨by kernel_rfl, ?hy1⟩) (by assumption) ?_
            case hy1 => (intro w hSw; (try dsimp only at hSw); obtain ⟨t00, t01, t02, t03⟩ := (HBX2.out.on hSw).all; obtain ⟨t10, t11, t12, t13⟩ := (HCP.out.on hSw).all; obtain ⟨t20, t21, t22, t23⟩ := (HCQ.out.on hSw).all; go_simp; try with_reducible rfl)
            try simp only [Act.put, List.getElem_toArray, List.getElem_cons_zero, List.getElem_cons_succ, List.setIfInBounds_toArray, List.set_cons_zero, List.set_cons_succ]
            refine wpAnyH_take (i := 2) (v := ?_) rfl (by kernel_rfl) (by kernel_rfl) (by kernel_rfl) (fun _ _ _ h => h) (Or.inl ⟨by kernel_rfl, ?hy2⟩) (by assumption) ?_
            case hy2 => (intro w hSw; (try dsimp only at hSw); obtain ⟨t00, t01, t02, t03⟩ := (HBX2.out.on hSw).all; obtain ⟨t10, t11, t12, t13⟩ := (HCP.out.on hSw).all; obtain ⟨t20, t21, t22, t23⟩ := (HCQ.out.on hSw).all; go_simp; try with_reducible rfl)
            try simp only [Act.put, List.getElem_toArray, List.getElem_cons_zero, List.getElem_cons_succ, List.setIfInBounds_toArray, List.set_cons_zero, List.set_cons_succ]
            refine wpAnyH_take (i := 3) (v := ?_) rfl (by kernel_rfl) (by kernel_rfl) (by kernel_rfl) (fun _ _ _ h => h) (Or.inl ⟨by kernel_rfl, ?hy3⟩) (by assumption) ?_
            case hy3 => (intro w hSw; (try dsimp only at hSw); obtain ⟨t00, t01, t02, t03⟩ := (HBX2.out.on hSw).all; obtain ⟨t10, t11, t12, t13⟩ := (HCP.out.on hSw).all; obtain ⟨t20, t21, t22, t23⟩ := (HCQ.out.on hSw).all; go_simp; try with_reducible rfl)
            try simp only [Act.put, List.getElem_toArray, List.getElem_cons_zero, List.getElem_cons_succ, List.setIfInBounds_toArray, List.set_cons_zero, List.set_cons_succ]
            refine wpAnyH_take (i := 4) (v := ?_) rfl (by kernel_rfl) (by kernel_rfl) (by kernel_rfl) (fun _ _ _ h => h) (Or.inl ⟨by kernel_rfl, ?hy4⟩) (by assumption) ?_
            case hy4 => (intro w hSw; (try dsimp only at hSw); obtain ⟨t00, t01, t02, t03⟩ := (HBX2.out.on hSw).all; obtain ⟨t10, t11, t12, t13⟩ := (HCP.out.on hSw).all; obtain ⟨t20, t21, t22, t23⟩ := (HCQ.out.on hSw).all; go_simp; try with_reducible rfl)
            try simp only [Act.put, List.getElem_toArray, List.getElem_cons_zero, List.getElem_cons_succ, List.setIfInBounds_toArray, List.set_cons_zero, List.set_cons_succ]
            refine wpAnyH_take (i := 5) (v := ?_) rfl (by kernel_rfl) (by kernel_rfl) (by kernel_rfl) (fun _ _ _ h => h) (Or.inl ⟨by kernel_rfl, ?hy5⟩) (by assumption) ?_
            case hy5 => (intro w hSw; (try dsimp only at hSw); obtain ⟨t00, t01, t02, t03⟩ := (HBX2.out.on hSw).all; obtain ⟨t10, t11, t12, t13⟩ := (HCP.out.on hSw).all; obtain ⟨t20, t21, t22, t23⟩ := (HCQ.out.on hSw).all; go_simp; try with_reducible rfl)
            try simp only [Act.put, List.getElem_toArray, List.getElem_cons_zero, List.getElem_cons_succ, List.setIfInBounds_toArray, List.set_cons_zero, List.set_cons_succ]
            refine wpAnyH_take (i := 6) (v := ?_) rfl (by kernel_rfl) (by kernel_rfl) (by kernel_rfl) (fun _ _ _ h => h) (Or.inl ⟨by kernel_rfl, ?hy6⟩) (by assumption) ?_
            case hy6 => (intro w hSw; (try dsimp only at hSw); obtain ⟨t00, t01, t02, t03⟩ := (HBX2.out.on hSw).all; obtain ⟨t10, t11, t12, t13⟩ := (HCP.out.on hSw).all; obtain ⟨t20, t21, t22, t23⟩ := (HCQ.out.on hSw).all; go_simp; try with_reducible rfl)
            try simp only [Act.put, List.getElem_toArray, List.getElem_cons_zero, List.getElem_cons_succ, List.setIfInBounds_toArray, List.set_cons_zero, List.set_cons_succ]
            refine wpAnyH_take (i := 7) (v := ?_) rfl (by kernel_rfl) (by kernel_rfl) (by kernel_rfl) (fun _ _ _ h => h) (Or.inl ⟨by kernel_rfl, ?hy7⟩) (by assumption) ?_
            case hy7 => (intro w hSw; (try dsimp only at hSw); obtain ⟨t00, t01, t02, t03⟩ := (HBX2.out.on hSw).all; obtain ⟨t10, t11, t12, t13⟩ := (HCP.out.on hSw).all; obtain ⟨t20, t21, t22, t23⟩ := (HCQ.out.on hSw).all; go_simp; try with_reducible rfl)
            try simp only [Act.put, List.getElem_toArray, List.getElem_cons_zero, List.getElem_cons_succ, List.setIfInBounds_toArray, List.set_cons_zero, List.set_cons_succ]
            refine wpAnyH_take (i := 8) (v := ?_) rfl (by kernel_rfl) (by kernel_rfl) (by kernel_rfl) (fun _ _ _ h => h) (Or.inl ⟨by kernel_rfl, ?hy8⟩) (by assumption) ?_
            case hy8 => (intro w hSw; (try dsimp only at hSw); obtain ⟨t00, t01, t02, t03⟩ := (HBX2.out.on hSw).all; obtain ⟨t10, t11, t12, t13⟩ := (HCP.out.on hSw).all; obtain ⟨t20, t21, t22, t23⟩ := (HCQ.out.on hSw).all; go_simp; try with_reducible rfl)
            try simp only [Act.put, List.getElem_toArray, List.getElem_cons_zero, List.getElem_cons_succ, List.setIfInBounds_toArray, List.set_cons_zero, List.set_cons_succ]
            refine wpAnyH_take (i := 9) (v := ?_) rfl (by kernel_rfl) (by kernel_rfl) (by kernel_rfl) (fun _ _ _ h => h) (Or.inl ⟨by kernel_rfl, ?hy9⟩) (by assumption) ?_
            case hy9 => (intro w hSw; (try dsimp only at hSw); obtain ⟨t00, t01, t02, t03⟩ := (HBX2.out.on hSw).all; obtain ⟨t10, t11, t12, t13⟩ := (HCP.out.on hSw).all; obtain ⟨t20, t21, t22, t23⟩ := (HCQ.out.on hSw).all; go_simp; try with_reducible rfl)
            try simp only [Act.put, List.getElem_toArray, List.getElem_cons_zero, List.getElem_cons_succ, List.setIfInBounds_toArray, List.set_cons_zero, List.set_cons_succ]
            refine wpAnyH_take (i := 10) (v := ?_) rfl (by kernel_rfl) (by kernel_rfl) (by kernel_rfl) (fun _ _ _ h => h) (Or.inl ⟨by kernel_rfl, ?hy10⟩) (by assumption) ?_
            case hy10 => (intro w hSw; (try dsimp only at hSw); obtain ⟨t00, t01, t02, t03⟩ := (HBX2.out.on hSw).all; obtain ⟨t10, t11, t12, t13⟩ := (HCP.out.on hSw).all; obtain ⟨t20, t21, t22, t23⟩ := (HCQ.out.on hSw).all; go_simp; try with_reducible rfl)
            try simp only [Act.put, List.getElem_toArray, List.getElem_cons_zero, List.getElem_cons_succ, List.setIfInBounds_toArray, List.set_cons_zero, List.set_cons_succ]
            refine wpAnyH_take (i := 11) (v := ?_) rfl (by kernel_rfl) (by kernel_rfl) (by kernel_rfl) (fun _ _ _ h => h) (Or.inl ⟨by kernel_rfl, ?hy11⟩) (by assumption) ?_
            case hy11 => (intro w hSw; (try dsimp only at hSw); obtain ⟨t00, t01, t02, t03⟩ := (HBX2.out.on hSw).all; obtain ⟨t10, t11, t12, t13⟩ := (HCP.out.on hSw).all; obtain ⟨t20, t21, t22, t23⟩ := (HCQ.out.on hSw).all; go_simp; try with_reducible rfl)
            try simp only [Act.put, List.getElem_toArray, List.getElem_cons_zero, List.getElem_cons_succ, List.setIfInBounds_toArray, List.set_cons_zero, List.set_cons_succ]
            refine wpAnyH_take (i := 12) (v := ?_) rfl (by kernel_rfl) (by kernel_rfl) (by kernel_rfl) (fun _ _ _ h => h) (Or.inl ⟨by kernel_rfl, ?hy12⟩) (by assumption) ?_
            case hy12 => (intro w hSw; (try dsimp only at hSw); obtain ⟨t00, t01, t02, t03⟩ := (HBX2.out.on hSw).all; obtain ⟨t10, t11, t12, t13⟩ := (HCP.out.on hSw).all; obtain ⟨t20, t21, t22, t23⟩ := (HCQ.out.on hSw).all; go_simp; try with_reducible rfl)
            try simp only [Act.put, List.getElem_toArray, List.getElem_cons_zero, List.getElem_cons_succ, List.setIfInBounds_toArray, List.set_cons_zero, List.set_cons_succ]
            refine wpAnyH_done (by kernel_rfl) ?_ _
            go_wp2_with fail
            go_meet
            exact ⟨rfl, rfl, hHeld⟩
          case rest =>
            obtain ⟨rfl, rfl, hbc⟩ := hcut
            have HCI3 := hid (HCI.out.on hbc)
            have HBX3 := hid (HBX2.out.on hbc)
            have HO3 := hid (HO2.out.on hbc)
            clear HCI HBX2 HO2 HCP HCQ hbc
            go_upto_region 9 with fail
            have hO4 := HO3.out
            have hSD : RB wc.drew P ry (.slice (some ⟨be, oe, none⟩) re.length ce) ∧ CI wc.drew b (off + (i + 1) * 2) s.1 := ⟨⟨HBX3.out.obj⟩, ⟨HCI3.out.lt, HCI3.out.c⟩⟩
            have HSR := hid (srcR wc.drew ⟨p, ry, q - p, hh⟩)
            have HOA := hid (hO4.on (u' := wc.drew.alloc (.cells #[.int .i64 p, .int .i64 ry, .int .i64 (q - p), .int .i64 hh] 24)) ((Below.refl _ _).drew.alloc (Nat.le_refl _) _))
            have hSA : RB (wc.drew.alloc (.cells #[.int .i64 p, .int .i64 ry, .int .i64 (q - p), .int .i64 hh] 24)) P ry (.slice (some ⟨be, oe, none⟩) re.length ce) ∧ CI (wc.drew.alloc (.cells #[.int .i64 p, .int .i64 ry, .int .i64 (q - p), .int .i64 hh] 24)) b (off + (i + 1) * 2) s.1 := ⟨hSD.1.on (below_new _ _), hSD.2.on (below_new _ _)⟩
            clear hO4 HCI3 HBX3 HO3
            have hHeld := hSD
            refine wp_region_held_drew (S := fun x => RB x P ry (.slice (some ⟨be, oe, none⟩) re.length ce) ∧ CI x b (off + (i + 1) * 2) s.1) (by kernel_rfl) hHeld (fun _ => ?_)
            refine wpAnyH_take (i := 0) (v := ?_) rfl (by kernel_rfl) (by kernel_rfl) (by kernel_rfl) (fun _ _ _ h => h) (Or.inl ⟨by kernel_rfl, ?hy0⟩) (by assumption) ?_
            case hy0 => (intro w hSw; (try dsimp only at hSw); obtain ⟨t00, t01, t02, t03⟩ := (hSw.1).all; obtain ⟨t10, t11, t12, t13⟩ := (hSw.2).all; go_simp; try with_reducible rfl)
            try simp only [Act.put, List.getElem_toArray, List.getElem_cons_zero, List.setIfInBounds_toArray, List.set_cons_zero, List.set_cons_succ]
            refine wpAnyH_take (i := 1) (v := ?_) rfl (by kernel_rfl) (by kernel_rfl) (by kernel_rfl) (fun _ _ _ h => h) (Or.inl ⟨by kernel_rfl, ?hy1⟩) (by assumption) ?_
            case hy1 => (intro w hSw; (try dsimp only at hSw); obtain ⟨t00, t01, t02, t03⟩ := (hSw.1).all; obtain ⟨t10, t11, t12, t13⟩ := (hSw.2).all; go_simp; try with_reducible rfl)
            try simp only [Act.put, List.getElem_toArray, List.getElem_cons_zero, List.getElem_cons_succ, List.setIfInBounds_toArray, List.set_cons_zero, List.set_cons_succ]
            refine wpAnyH_take (i := 2) (v := ?_) rfl (by kernel_rfl) (by kernel_rfl) (by kernel_rfl) (fun _ _ _ h => h) (Or.inl ⟨by kernel_rfl, ?hy2⟩) (by assumption) ?_
            case hy2 => (intro w hSw; (try dsimp only at hSw); obtain ⟨t00, t01, t02, t03⟩ := (hSw.1).all; obtain ⟨t10, t11, t12, t13⟩ := (hSw.2).all; go_simp; try with_reducible rfl)
            try simp only [Act.put, List.getElem_toArray, List.getElem_cons_zero, List.getElem_cons_succ, List.setIfInBounds_toArray, List.set_cons_zero, List.set_cons_succ]
            refine wpAnyH_take (i := 3) (v := ?_) rfl (by kernel_rfl) (by kernel_rfl) (by kernel_rfl) (fun _ _ _ h => h) (Or.inl ⟨by kernel_rfl, ?hy3⟩) (by assumption) ?_
            case hy3 => (intro w hSw; (try dsimp only at hSw); obtain ⟨t00, t01, t02, t03⟩ := (hSw.1).all; obtain ⟨t10, t11, t12, t13⟩ := (hSw.2).all; go_simp; try with_reducible rfl)
            try simp only [Act.put, List.getElem_toArray, List.getElem_cons_zero, List.getElem_cons_succ, List.setIfInBounds_toArray, List.set_cons_zero, List.set_cons_succ]
            refine wpAnyH_take (i := 4) (v := ?_) rfl (by kernel_rfl) (by kernel_rfl) (by kernel_rfl) (fun _ _ _ h => h) (Or.inl ⟨by kernel_rfl, ?hy4⟩) (by assumption) ?_
            case hy4 => (intro w hSw; (try dsimp only at hSw); obtain ⟨t00, t01, t02, t03⟩ := (hSw.1).all; obtain ⟨t10, t11, t12, t13⟩ := (hSw.2).all; go_simp; try with_reducible rfl)
            try simp only [Act.put, List.getElem_toArray, List.getElem_cons_zero, List.getElem_cons_succ, List.setIfInBounds_toArray, List.set_cons_zero, List.set_cons_succ]
            refine wpAnyH_take (i := 5) (v := ?_) rfl (by kernel_rfl) (by kernel_rfl) (by kernel_rfl) (fun _ _ _ h => h) (Or.inl ⟨by kernel_rfl, ?hy5⟩) (by assumption) ?_
            case hy5 => (intro w hSw; (try dsimp only at hSw); obtain ⟨t00, t01, t02, t03⟩ := (hSw.1).all; obtain ⟨t10, t11, t12, t13⟩ := (hSw.2).all; go_simp; try with_reducible rfl)
            try simp only [Act.put, List.getElem_toArray, List.getElem_cons_zero, List.getElem_cons_succ, List.setIfInBounds_toArray, List.set_cons_zero, List.set_cons_succ]
            refine wpAnyH_take (i := 6) (v := ?_) rfl (by kernel_rfl) (by kernel_rfl) (by kernel_rfl) (fun _ _ _ h => h) (Or.inl ⟨by kernel_rfl, ?hy6⟩) (by assumption) ?_
            case hy6 => (intro w hSw; (try dsimp only at hSw); obtain ⟨t00, t01, t02, t03⟩ := (hSw.1).all; obtain ⟨t10, t11, t12, t13⟩ := (hSw.2).all; go_simp; try with_reducible rfl)
            try simp only [Act.put, List.getElem_toArray, List.getElem_cons_zero, List.getElem_cons_succ, List.setIfInBounds_toArray, List.set_cons_zero, List.set_cons_succ]
            refine wpAnyH_take (i := 7) (v := ?_) rfl (by kernel_rfl) (by kernel_rfl) (by kernel_rfl) (fun _ _ _ h => h) (Or.inl ⟨by kernel_rfl, ?hy7⟩) (by assumption) ?_
            case hy7 => (intro w hSw; (try dsimp only at hSw); obtain ⟨t00, t01, t02, t03⟩ := (hSw.1).all; obtain ⟨t10, t11, t12, t13⟩ := (hSw.2).all; go_simp; try with_reducible rfl)
            try simp only [Act.put, List.getElem_toArray, List.getElem_cons_zero, List.getElem_cons_succ, List.setIfInBounds_toArray, List.set_cons_zero, List.set_cons_succ]
            refine wpAnyH_take (i := 8) (v := ?_) rfl (by kernel_rfl) (by kernel_rfl) (by kernel_rfl) (fun _ _ _ h => h) (Or.inl ⟨by kernel_rfl, ?hy8⟩) (by assumption) ?_
            case hy8 => (intro w hSw; (try dsimp only at hSw); obtain ⟨t00, t01, t02, t03⟩ := (hSw.1).all; obtain ⟨t10, t11, t12, t13⟩ := (hSw.2).all; go_simp; try with_reducible rfl)
            try simp only [Act.put, List.getElem_toArray, List.getElem_cons_zero, List.getElem_cons_succ, List.setIfInBounds_toArray, List.set_cons_zero, List.set_cons_succ]
            refine wpAnyH_take (i := 9) (v := ?_) rfl (by kernel_rfl) (by kernel_rfl) (by kernel_rfl) (fun _ _ _ h => h) (Or.inl ⟨by kernel_rfl, ?hy9⟩) (by assumption) ?_
            case hy9 => (intro w hSw; (try dsimp only at hSw); obtain ⟨t00, t01, t02, t03⟩ := (hSw.1).all; obtain ⟨t10, t11, t12, t13⟩ := (hSw.2).all; go_simp; try with_reducible rfl)
            try simp only [Act.put, List.getElem_toArray, List.getElem_cons_zero, List.getElem_cons_succ, List.setIfInBounds_toArray, List.set_cons_zero, List.set_cons_succ]
            refine wpAnyH_take (i := 10) (v := ?_) rfl (by kernel_rfl) (by kernel_rfl) (by kernel_rfl) (fun _ _ _ h => h) (Or.inl ⟨by kernel_rfl, ?hy10⟩) (by assumption) ?_
            case hy10 => (intro w hSw; (try dsimp only at hSw); obtain ⟨t00, t01, t02, t03⟩ := (hSw.1).all; obtain ⟨t10, t11, t12, t13⟩ := (hSw.2).all; go_simp; try with_reducible rfl)
            try simp only [Act.put, List.getElem_toArray, List.getElem_cons_zero, List.getElem_cons_succ, List.setIfInBounds_toArray, List.set_cons_zero, List.set_cons_succ]
            refine wpAnyH_take (i := 11) (v := ?_) rfl (by kernel_rfl) (by kernel_rfl) (by kernel_rfl) (fun _ _ _ h => h) (Or.inl ⟨by kernel_rfl, ?hy11⟩) (by assumption) ?_
            case hy11 => (intro w hSw; (try dsimp only at hSw); obtain ⟨t00, t01, t02, t03⟩ := (hSw.1).all; obtain ⟨t10, t11, t12, t13⟩ := (hSw.2).all; go_simp; try with_reducible rfl)
            try simp only [Act.put, List.getElem_toArray, List.getElem_cons_zero, List.getElem_cons_succ, List.setIfInBounds_toArray, List.set_cons_zero, List.set_cons_succ]
            refine wpAnyH_take (i := 12) (v := ?_) rfl (by kernel_rfl) (by kernel_rfl) (by kernel_rfl) (fun _ _ _ h => h) (Or.inl ⟨by kernel_rfl, ?hy12⟩) (by assumption) ?_
            case hy12 => (intro w hSw; (try dsimp only at hSw); obtain ⟨t00, t01, t02, t03⟩ := (hSw.1).all; obtain ⟨t10, t11, t12, t13⟩ := (hSw.2).all; go_simp; try with_reducible rfl)
            try simp only [Act.put, List.getElem_toArray, List.getElem_cons_zero, List.getElem_cons_succ, List.setIfInBounds_toArray, List.set_cons_zero, List.set_cons_succ]
            refine wpAnyH_take (i := 13) (v := ?_) rfl (by kernel_rfl) (by kernel_rfl) (by kernel_rfl) (fun _ _ _ h => h) (Or.inl ⟨by kernel_rfl, ?hy13⟩) (by assumption) ?_
            case hy13 => (intro w hSw; (try dsimp only at hSw); obtain ⟨t00, t01, t02, t03⟩ := (hSw.1).all; obtain ⟨t10, t11, t12, t13⟩ := (hSw.2).all; go_simp; try with_reducible rfl)
            try simp only [Act.put, List.getElem_toArray, List.getElem_cons_zero, List.getElem_cons_succ, List.setIfInBounds_toArray, List.set_cons_zero, List.set_cons_succ]
            refine wpAnyH_take (i := 14) (v := ?_) rfl (by kernel_rfl) (by kernel_rfl) (by kernel_rfl) (fun _ _ _ h => h) (Or.inl ⟨by kernel_rfl, ?hy14⟩) (by assumption) ?_
            case hy14 => (intro w hSw; (try dsimp only at hSw); obtain ⟨t00, t01, t02, t03⟩ := (hSw.1).all; obtain ⟨t10, t11, t12, t13⟩ := (hSw.2).all; go_simp; try with_reducible rfl)
            try simp only [Act.put, List.getElem_toArray, List.getElem_cons_zero, List.getElem_cons_succ, List.setIfInBounds_toArray, List.set_cons_zero, List.set_cons_succ]
            refine wpAnyH_take (i := 15) (v := ?_) rfl (by kernel_rfl) (by kernel_rfl) (by kernel_rfl) (fun _ _ _ h => h) (Or.inl ⟨by kernel_rfl, ?hy15⟩) (by assumption) ?_
            case hy15 => (intro w hSw; (try dsimp only at hSw); obtain ⟨t00, t01, t02, t03⟩ := (hSw.1).all; obtain ⟨t10, t11, t12, t13⟩ := (hSw.2).all; go_simp; try with_reducible rfl)
            try simp only [Act.put, List.getElem_toArray, List.getElem_cons_zero, List.getElem_cons_succ, List.setIfInBounds_toArray, List.set_cons_zero, List.set_cons_succ]
            refine wpAnyH_take (i := 16) (v := ?_) rfl (by kernel_rfl) (by kernel_rfl) (by kernel_rfl) (fun _ _ _ h => h) (Or.inl ⟨by kernel_rfl, ?hy16⟩) (by assumption) ?_
            case hy16 => (intro w hSw; (try dsimp only at hSw); obtain ⟨t00, t01, t02, t03⟩ := (hSw.1).all; obtain ⟨t10, t11, t12, t13⟩ := (hSw.2).all; go_simp; try with_reducible rfl)
            try simp only [Act.put, List.getElem_toArray, List.getElem_cons_zero, List.getElem_cons_succ, List.setIfInBounds_toArray, List.set_cons_zero, List.set_cons_succ]
            refine wpAnyH_ready (rs := [17]) (by kernel_rfl) (by simp) ?_
            refine AllReadyH.cons rfl (fun K hK => ?_) AllReadyH.nil
            go_simp
            refine hK.out _ _ hSA (fun _ => ?_)
            clear hK K hHeld hSD
            have hHeld := hSA
            refine wpAnyH_ready (rs := [18]) (by kernel_rfl) (by simp) ?_
            refine AllReadyH.cons rfl (fun K hK => ?_) AllReadyH.nil
            refine step_append_own_src rfl (.tmp 34) (.tmp 51) 29 29 rfl w.heap.size 24 i0 (.agg #[.int .i64 0, .int .i64 0, .int .i64 0, .int .i64 0]) 4 32 Tryd.underlying29 hi hz0 hz1 hz2 rfl _ _ _ (by simp [Act.eval]) HOA.out.own _ 1 _ (by simp [Act.eval]) HSR.out (by simp only [maxLen]; omega) (fits32 (by omega)) HOA.out.size ?_
            intro v3 w3 o3 g3
            have HO5 := hid (HOA.out.grown (m := [⟨p, ry, q - p, hh⟩]) o3 g3)
            have HS5 : Hid (RB w3 P ry (.slice (some ⟨be, oe, none⟩) re.length ce) ∧ CI w3 b (off + (i + 1) * 2) s.1) := ⟨⟨by rw [g3.block P (Array.getElem?_eq_some_iff.1 hSA.1.obj).1 (own_ne HOA.out.own hSA.1.obj (by decide))]; exact hSA.1.obj⟩, ⟨Nat.lt_of_lt_of_le hSA.2.lt g3.size, by rw [World.cell?_of_block (w := wc.drew.alloc _) (a := ⟨b, _, none⟩) (g3.block b hSA.2.lt (fun e => by have := (HOA.out.own.lt b e.symm).1; omega))]; exact hSA.2.c⟩⟩
            clear o3 g3
            refine hK.out _ _ HS5.out (fun _ => ?_)
            clear hK K hHeld
            have hHeld := HS5.out
            refine wpAnyH_take (i := 19) (v := ?_) rfl (by kernel_rfl) (by kernel_rfl) (by kernel_rfl) (fun _ _ _ h => h) (Or.inl ⟨by kernel_rfl, ?hy19⟩) (by assumption) ?_
            case hy19 => (intro w hSw; (try dsimp only at hSw); obtain ⟨t00, t01, t02, t03⟩ := (hSw.1).all; obtain ⟨t10, t11, t12, t13⟩ := (hSw.2).all; go_simp; try with_reducible rfl)
            try simp only [Act.put, List.getElem_toArray, List.getElem_cons_zero, List.getElem_cons_succ, List.setIfInBounds_toArray, List.set_cons_zero, List.set_cons_succ]
            refine wpAnyH_done (by kernel_rfl) ?_ _
            have HE5 : Hid (OwC w w3 v3 (B0 ++ prs ry hh (re.take (k + 2)))) := by
              have := HO5.out
              rw [List.append_assoc, ← HSN.out] at this
              exact this
            go_wp2
            go_roundw
            case rel => exact ⟨k + 2, by go_num, by omega, by omega, HS5.out.1, HE5.out⟩
            case measure => simp [numOf]; omega
        · have e2 : decide ((k : Int) < re.length) = false := decide_eq_false (by omega)
          obtain rfl : k = re.length := by omega
          have HF := hid HO2.out
          rw [List.take_length, ← HB1.out] at HF
          clear HO2
          go_wp2
          go_roundw
          case rel => exact ⟨i + 1, by go_num, by omega, HF.out⟩
          case measure => simp [numOf]; omega
    · have e1 : decide ((i : Int) < n) = false := decide_eq_false (by omega)
      obtain rfl : i = n := by omega
      have HF := hid HO.out
      rw [List.take_of_length_le (by rw [HL.out]; omega)] at HF
      clear HO
      go_wp2
      go_ret
      exact ⟨_, rfl, HF.out⟩
end Go.Proofs.YtmiapccngeafkaaDoor
