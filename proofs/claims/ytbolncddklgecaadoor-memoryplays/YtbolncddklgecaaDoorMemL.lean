/- The document's memories: Write, Read. -/
import Derived.Test.YtbolncddklgecaaDoorMemK
namespace Go.Proofs.YtbolncddklgecaaDoor
open Go Go.RowKit

theorem rset_any {base : Nat} {w : World} {q : Nat} {s : Int → Mo} {d : Int → Do} (hD : Dm base w q d) (hag : Ag s d) (hbase : base ≤ w.heap.size) (k n : Int) :
    Calls Tryd.prog 12 #[.pointer (some ⟨q, 0, none⟩), .int .i64 k, .int .i64 n] w fun e w' => e = .returned (.int .i64 (setE k n : Nat)) ∧ ∃ d', Dnew base w q d w' d' ∧ ∀ g, Ag (if setE k n = 0 then mupd s k (some (g, rsz (by_ (s k)) n.toNat)) else s) d' := by
  by_cases hk : k < 1 ∨ 255 < k ∨ n < 0 ∨ 65536 < n
  · have e1 : setE k n = 1 := by rw [setE, if_pos hk]
    rw [e1]
    refine (rset_arg hD k n hk).mono ?_
    rintro e w' ⟨rfl, h⟩
    exact ⟨rfl, d, h, fun _ => by rw [if_neg (by decide)]; exact hag⟩
  · have e1 : setE k n = 0 := by rw [setE, if_neg hk]
    rw [e1]
    obtain ⟨i, rfl⟩ : ∃ i : Nat, k = i := ⟨k.toNat, by omega⟩
    obtain ⟨m, rfl⟩ : ∃ m : Nat, n = m := ⟨n.toNat, by omega⟩
    refine (rset_ok hD hag hbase i m (by omega) (by omega)).mono ?_
    rintro e w' ⟨rfl, v, h⟩
    exact ⟨rfl, _, h, fun g => by rw [if_pos rfl, Int.toNat_natCast]; exact hag.upd _ _ _ _⟩

theorem rd_dropm {w : World} {a : Option Addr} {n c : Nat} {l : List UInt8} (h : Rd w a n c l) (k : Nat) (hk : k ≤ n) : Rd w (Option.map (fun x => x.add k) a) (n - k) (c - k) (l.drop k) :=
  ⟨by rw [List.length_drop, h.len], by have := h.le; omega, by have := h.max; omega, (fun hn => by
    have h0 : a = none := by simpa using hn
    have := h.hnil h0
    omega), fun x hx j u hu => by
    obtain ⟨y, hy, rfl⟩ := Option.map_eq_some_iff.1 hx
    rw [Go.Deep.add_add]
    refine h.cells y hy (k + j) u ?_
    rw [bc, List.getElem?_map, List.getElem?_drop] at hu
    rw [bc, List.getElem?_map]
    exact hu⟩
theorem rd_zero (w : World) (a : Option Addr) : Rd w a 0 0 [] :=
  ⟨rfl, Nat.le_refl _, Nat.zero_le _, fun _ => rfl, fun x _ j u hu => by simp [bc] at hu⟩
theorem rd_take {w : World} {a : Option Addr} {n c : Nat} {l : List UInt8} (h : Rd w a n c l) (k : Nat) (hk : k ≤ n) : Rd w a k c (l.take k) :=
  ⟨by rw [List.length_take, h.len]; omega, by have := h.le; omega, h.max, h.hnil, fun x hx j u hu => by
    refine h.cells x hx j u ?_
    have hj : j < (l.take k).length := by
      rcases Nat.lt_or_ge j (l.take k).length with h' | h'
      · exact h'
      · rw [List.getElem?_eq_none (by rw [bc_length]; exact h')] at hu; cases hu
    rw [List.length_take] at hj
    rw [bc, List.getElem?_map, List.getElem?_take_of_lt (by omega)] at hu
    rw [bc, List.getElem?_map]
    exact hu⟩

variable {base : Nat} {w : World} {q : Nat} {s : Int → Mo} {d : Int → Do}

/-- 'x[at:]' filled by copy, of a row of one's own (or nil). -/
theorem copy_tail (u : World) (base n : Nat) (a1 : Option Addr) (c1 : Nat) (l : List UInt8) (hO : u.ownsRow base 5 1 (.slice a1 n c1) n (bc l)) (j : Nat) (a : Option Addr) (m c : Nat) (b : List UInt8) (hr : Rd u a m c b) (hj : j + m ≤ n) :
    ∃ U k, (∀ ty : TypeId, (Builtin.copy_ #[26, 26] ty #[.slice (Option.map (fun x => x.add j) a1) (n - j) (c1 - j), .slice a m c]).run Tryd.prog u = .ok (goInt k) U) ∧
      (c1 = j → ∀ ty : TypeId, (Builtin.copy_ #[26, 26] ty #[.slice a1 (n - j) 0, .slice a m c]).run Tryd.prog u = .ok (goInt k) U) ∧
      U.ownsRow base 5 1 (.slice a1 n c1) n (bc (wro l j b)) ∧ ∀ B, B ≤ u.heap.size → B ≤ base → Below B u U := by
  have hlen := hr.len
  rcases hO.2 with ⟨hv, h0⟩ | ⟨g, cap, cur, hv, hb, hg, hnc, hcm, hs, ht⟩
  · cases hv
    obtain rfl : m = 0 := by omega
    obtain rfl : b = [] := List.eq_nil_of_length_eq_zero hlen
    refine ⟨u, 0, fun ty => run_copy_none (P := Tryd.prog) u _ _ ty 5 _ _ _ _ _ _ Tryd.underlying26 sizeU8 (Nat.zero_min _), fun _ ty => run_copy_none (P := Tryd.prog) u _ _ ty 5 _ _ _ _ _ _ Tryd.underlying26 sizeU8 (Nat.zero_min _), by rw [wro_nil]; exact hO, fun B _ _ => Below.refl _ _⟩
  · cases hv
    obtain ⟨U, k, h1, h2, h3⟩ := copy_own u base g n c1 l hO j (n - j) (c1 - j) (by omega) a m c b hr
    rw [List.take_of_length_le (by omega)] at h2
    have e1 : Option.map (fun x : Addr => x.add j) (some ⟨g, 0, none⟩) = some ⟨g, j, none⟩ := by
      rw [Option.map_some, Go.WideShapes.add_plain, Nat.zero_add]
    refine ⟨U, k, fun ty => by rw [e1]; exact h1 ty, fun hc ty => ?_, h2, fun B hB hBb => h3.below hB (fun i hi => by simp only [List.mem_cons, List.not_mem_nil, or_false] at hi; omega)⟩
    have h0 : n - j = 0 := by omega
    have q1 := h1 ty
    rw [h0, run_copy_none (P := Tryd.prog) u 26 26 ty 5 _ _ _ _ _ _ Tryd.underlying26 sizeU8 (Nat.min_zero _)] at q1
    rw [h0, run_copy_none (P := Tryd.prog) u 26 26 ty 5 _ _ _ _ _ _ Tryd.underlying26 sizeU8 (Nat.min_zero _)]
    exact q1

set_option maxRecDepth 100000 in
set_option maxHeartbeats 1000000 in
theorem rwrite_ok (hD : Dm base w q d) (hag : Ag s d) (hbase : base ≤ w.heap.size) (i j : Nat) (a : Option Addr) (n c : Nat) (l : List UInt8) (hr : Rd w a n c l) (r : Nat × List UInt8) (hq : s i = some r) (hin : j + n ≤ r.2.length) :
    Calls Tryd.prog 17 #[.pointer (some ⟨q, 0, none⟩), .int .i64 i, .int .i64 j, .slice a n c] w fun e w' => e = .returned (.int .i64 0) ∧ ∃ v, Dnew base w q d w' (dupd d i (some (v, wro r.2 j l))) := by
  obtain ⟨i0, hi, hz0, hz1, hz2⟩ := info_parts infoU8
  have HI := hid (rin_any hD hag i)
  have hk := hD.dom i (by rw [hag.isSome i, hq]; rfl)
  have hsome : (d i).isSome = true := by rw [hag.isSome i, hq]; rfl
  obtain ⟨ao, m, cm, hv, hrd, hm⟩ := hag.rd hD i
  rw [hq, show by_ (some r) = r.2 from rfl] at hrd
  rw [hq, Option.isSome_some] at HI
  have hlm := hrd.len
  have hlen := hr.len
  have c0 := hD.cl i (by omega)
  rw [hv] at c0
  have HS := hid (hrd.src (P := Tryd.prog) Tryd.underlying26)
  have hlt := hD.lt
  have HA : Hid (∀ v1 w1, w1.ownsRow w.heap.size 5 1 v1 (0 + m) ([] ++ bc r.2) → w.grownBy w1 (Value.ownBlock (.slice none 0 0)) → ∃ a1 c1 U kk, v1 = .slice a1 m c1 ∧ m ≤ c1 ∧ (∀ ty : TypeId, (Builtin.copy_ #[26, 26] ty #[.slice (Option.map (fun x => x.add j) a1) (m - j) (c1 - j), .slice a n c]).run Tryd.prog w1 = .ok (goInt kk) U) ∧
      (c1 = j → ∀ ty : TypeId, (Builtin.copy_ #[26, 26] ty #[.slice a1 (m - j) 0, .slice a n c]).run Tryd.prog w1 = .ok (goInt kk) U) ∧ U.cell? ⟨q, i, none⟩ = some (.slice ao m cm) ∧ (∀ j, U.frozen? ⟨q, j, none⟩ = false) ∧ q < U.heap.size ∧ Hid (∃ v, Dnew base w q d (U.setCell ⟨q, i, none⟩ (.slice a1 m c1)) (dupd d i (some (v, wro r.2 j l))))) := fun v1 w1 o1 g1 => by
    rw [Nat.zero_add, List.nil_append] at o1
    obtain ⟨a1, c1, rfl, hr1, hlo⟩ := rd_of_owns o1
    have hb1 : Below w.heap.size w w1 := (Below.refl _ _).grown g1 (Nat.le_refl _) (fun k hk => by cases hk)
    obtain ⟨U, kk, f1, f2, f3, f4⟩ := copy_tail w1 w.heap.size m a1 c1 r.2 o1 j a n c l (hr.below hb1 (rd_low hr)) (by omega)
    have hbU : Below w.heap.size w U := hb1.trans (f4 _ hb1.size (Nat.le_refl _))
    have hDU := hD.on hbU
    have hwl : (wro r.2 j l).length = r.2.length := wro_length (by omega)
    refine ⟨a1, c1, U, kk, rfl, hr1.le, f1, f2, by rw [hDU.cl i (by omega), hv], Lib.frozen_of_heap hDU.var, hDU.lt, ?_⟩
    refine ⟨.slice a1 m c1, hD.put i (by omega) _ _ (by rw [hwl]; omega) ?_ hbU (fun k hk => f3.lt k hk |>.1) _ ((Kp.refl [q] U).set ⟨q, i, none⟩ (by simp) _) ?_⟩
    · rw [hwl, hlm]
      exact ownsRow_low f3 hbase
    · rw [heap_setCell_same _ _ _ _ _ _ hDU.var, ← dmc_put d i (by omega) hsome (_, _)]
  have e1 : decide ((j : Int) < 0) = false := decide_eq_false (by omega)
  have e2 : decide ((m : Int) < j) = false := decide_eq_false (by omega)
  have e3 : decide ((m : Int) - j < n) = false := decide_eq_false (by omega)
  clear hD hag hr hq hv hrd hsome
  go_enter Tryd.func17, Tryd.ntmps17
  go_wp2_with fail
  refine HI.out.mono ?_
  rintro e w1 ⟨rfl, rfl⟩
  go_wp2_with (at_builtin; refine wpList_append_own_at _ rfl (.const (.slice none 0 0)) (.tmp 46) 26 26 rfl _ 5 i0 (.int .u8 0) 1 1 Tryd.underlying26 hi hz0 hz1 hz2 rfl _ 0 [] rfl (World.ownsRow_nil _ _ _ _) _ _ _ rfl HS.out (by simp only [maxLen]; omega) (fits1 (by omega)) (Nat.le_refl _) ?_; intro v1 w2 o1 g1 hv1; obtain ⟨a1, c1, U, kk, rfl, hc1, f1, f2, d0, df, dl, HF⟩ := HA.out _ _ o1 g1; clear o1 g1 hv1 HA c0 HS)
  · have hcj : c1 = j := by omega
    rw [hcj] at HF
    go_ret
    exact ⟨rfl, HF.out⟩
  · go_ret
    exact ⟨rfl, HF.out⟩
end Go.Proofs.YtbolncddklgecaaDoor
