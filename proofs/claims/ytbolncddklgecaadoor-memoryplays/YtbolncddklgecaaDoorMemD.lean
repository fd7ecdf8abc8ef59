/- The contracts of the program's memory: Set, Write, whatever the arguments. -/
import Derived.Test.YtbolncddklgecaaDoorMemC
import Derived.Laws.IdiomCopy
namespace Go.Proofs.YtbolncddklgecaaDoor
open Go Go.RowKit

theorem mset_any (base : Nat) (w : World) (es : List Addr) (hE : E3 w es) (p b : Nat) (s : Int → Mo) (hT : Mm base w p b s) (hbase : base ≤ w.heap.size) (k n : Int) :
    Calls Tryd.prog 11 #[.pointer (some ⟨p, 0, none⟩), .int .i64 k, .int .i64 n] w fun e w' => Setted base w es p b s k n e w' := by
  by_cases hk : k < 1 ∨ 255 < k ∨ n < 0 ∨ 65536 < n
  · exact mset_arg base w es hE p b s hT k n hk
  · obtain ⟨m, rfl⟩ : ∃ m : Nat, n = m := ⟨n.toNat, by omega⟩
    exact mset_ok base w es p b s hT hbase k m hk

/-- The block of a memory. -/
def ob : Mo → List Nat
  | none => []
  | some q => [q.1]

def wrE (q : Mo) (at_ n : Int) : Nat := match q with
  | none => 9
  | some q => if inn q.2.length at_ n = true then 0 else 8

def wrS (s : Int → Mo) (k at_ : Int) (b : List UInt8) : Int → Mo := match s k with
  | none => s
  | some q => if inn q.2.length at_ b.length = true then mupd s k (some (q.1, wro q.2 at_.toNat b)) else s

/-- Write's answer. -/
def Written (base : Nat) (w : World) (es : List Addr) (p b : Nat) (s : Int → Mo) (k at_ : Int) (l : List UInt8) (e : Ending) (w' : World) : Prop :=
  e = .returned (erv es (wrE (s k) at_ l.length)) ∧ Mm base w' p b (wrS s k at_ l) ∧ Kp (ob (s k)) w w'

theorem Mm.wrote {base : Nat} {w U : World} {p b : Nat} {s : Int → Mo} (hT : Mm base w p b s) {k : Int} {q : Nat × List UInt8} (hq : s k = some q) {L : List UInt8} (hL : L.length = q.2.length) (hg : U.heap[q.1]? = some (.cells (bc L).toArray 5 (0, 0))) (hk : Kp [q.1] w U) : Mm base U p b (mupd s k (some (q.1, L))) := by
  obtain ⟨r1, r2, r3, r4, r5⟩ := hT.row k q hq
  obtain ⟨D, ho, hR⟩ := hT.own
  refine ⟨hT.lop, hT.lob, hT.ne, hk.var hT.var (by simpa using Ne.symm r2), ⟨D, mown_kp ho hk (by simpa using Ne.symm r3), fun x => ?_⟩, hT.dom.upd (hT.dom k (by rw [hq]; rfl)) _, fun x y e => ?_, fun x x' y y' e e' h => ?_⟩
  · by_cases hx : x = k
    · rw [hx, mupd_same]
      have := hR k
      rw [hq] at this
      refine ⟨this.1, this.2.trans ?_⟩
      simp only [dtm, hL]
    · rw [mupd_other s hx]
      exact hR x
  · by_cases hx : x = k
    · rw [hx, mupd_same] at e
      cases e
      exact ⟨r1, r2, r3, hg, by simp only [hL]; exact r5⟩
    · rw [mupd_other s hx] at e
      obtain ⟨t1, t2, t3, t4, t5⟩ := hT.row x y e
      exact ⟨t1, t2, t3, hk.var t4 (fun hm => hx (hT.apart x k y q e hq (by simpa using hm))), t5⟩
  · by_cases hx : x = k
    · by_cases hx' : x' = k
      · rw [hx, hx']
      · rw [hx, mupd_same] at e
        rw [mupd_other s hx'] at e'
        cases e
        rw [hx]
        exact hT.apart k x' q y' hq e' h
    · by_cases hx' : x' = k
      · rw [hx', mupd_same] at e'
        rw [mupd_other s hx] at e
        cases e'
        rw [hx']
        exact hT.apart x k y q e hq h
      · rw [mupd_other s hx] at e
        rw [mupd_other s hx'] at e'
        exact hT.apart x x' y y' e e' h

theorem inn_true {size at_ n : Int} (h : inn size at_ n = true) : 0 ≤ at_ ∧ 0 ≤ n ∧ at_ ≤ size - n := by simpa [inn] using h

theorem wro_nil (l : List UInt8) (k : Nat) : wro l k [] = l := by simp [wro]

set_option maxRecDepth 100000 in
set_option maxHeartbeats 1000000 in
theorem mwrite_ok (base : Nat) (w : World) (es : List Addr) (p b : Nat) (s : Int → Mo) (hT : Mm base w p b s) (k : Int) (hi : -9223372036854775808 ≤ k ∧ k ≤ 9223372036854775807) (j : Nat) (a : Option Addr) (n c : Nat) (l : List UInt8) (hr : Rd w a n c l) (hn : n ≤ 65536) (g : Nat) (L : List UInt8) (hq : s k = some (g, L)) (hin : inn L.length j n = true) :
    Calls Tryd.prog 15 #[.pointer (some ⟨p, 0, none⟩), .int .i64 k, .int .i64 j, .slice a n c] w fun e w' => Written base w es p b s k j l e w' := by
  obtain ⟨D, ho, hR⟩ := hT.own
  have HO := hid ho
  have HA := hid (hR k)
  have HZ := hid (zSl w)
  have HK := hid (kInt k hi)
  have c0 : w.cell? ⟨p, 0, none⟩ = some (.map (some b)) := by rw [Lib.cell_of_heap hT.var]; rfl
  obtain ⟨r1, r2, r3, r4, r5⟩ := hT.row k _ hq
  simp only at r4 r5
  have h3 := inn_true hin
  have hlen := hr.len
  have HW := hid (within_any L.length j n w (by omega) (by omega) (by omega))
  rw [hin] at HW
  obtain ⟨U, mm, hcp, hU, hkU, _⟩ := copy_row w g j (L.length - j) (L.length - j) L r4 a n c l hr (by omega)
  have hcp2 : L.length - j = 0 → ∀ ty : TypeId, (Builtin.copy_ #[26, 26] ty #[.slice (some ⟨g, 0, none⟩) 0 0, .slice a n c]).run Tryd.prog w = .ok (goInt mm) U := fun h0 ty => by
    have q1 := hcp ty
    rw [h0, run_copy_none (P := Tryd.prog) w 26 26 ty 5 _ _ _ _ _ _ Tryd.underlying26 sizeU8 (Nat.min_zero _)] at q1
    rw [run_copy_none (P := Tryd.prog) w 26 26 ty 5 _ _ _ _ _ _ Tryd.underlying26 sizeU8 (Nat.min_zero _)]
    exact q1
  rw [List.take_of_length_le (by omega)] at hU
  have HF : Hid (Written base w es p b s k j l (.returned .nilIface) U) := by
    refine ⟨?_, ?_, ?_⟩
    · rw [hq, wrE, hlen, hin]; rfl
    · have h := hT.wrote hq (wro_length (by show j + l.length ≤ L.length; omega)) hU hkU
      rw [wrS, hq]
      simp only [hlen, hin, if_true, Int.toNat_natCast]
      exact h
    · rw [hq]; exact hkU
  have HV : Hid (slv (s k) = .slice (some ⟨g, 0, none⟩) L.length L.length) := by rw [hq]; rfl
  have HH : Hid (Maps.has D (.int .i64 k) = true) := by rw [Hid, (hR k).1, hq]; rfl
  generalize L.length = N at *
  clear hT ho hR hq hin hr hU hkU r4
  go_enter Tryd.func15, Tryd.ntmps15
  go_wp2_with (at_lookup; refine wpList_lookup_own_ok _ rfl (.tmp 15) (.tmp 16) 53 rfl 3 26 (Maps.int_keyed Tryd.underlying3) Tryd.underlying53 slR HZ.out _ _ (slR_mk none) b 255 D rfl HO.out _ _ rfl HK.out ?_; intro v ps hv; rw [show dtm none = DataW.nil from rfl, HA.out.2] at hv; obtain rfl := slR_inv hv; rw [HH.out, HV.out]; clear hv)
  refine HW.out.mono ?_
  rintro e w1 ⟨rfl, rfl⟩
  go_wp2
  all_goals
    go_ret
    exact HF.out

set_option maxRecDepth 100000 in
theorem mwrite_any (base : Nat) (w : World) (es : List Addr) (hE : E3 w es) (p b : Nat) (s : Int → Mo) (hT : Mm base w p b s) (k : Int) (hi : -9223372036854775808 ≤ k ∧ k ≤ 9223372036854775807) (j : Int) (hj : -9223372036854775808 ≤ j ∧ j ≤ 9223372036854775807) (a : Option Addr) (n c : Nat) (l : List UInt8) (hr : Rd w a n c l) (hn : n ≤ 65536) :
    Calls Tryd.prog 15 #[.pointer (some ⟨p, 0, none⟩), .int .i64 k, .int .i64 j, .slice a n c] w fun e w' => Written base w es p b s k j l e w' := by
  have hlen := hr.len
  cases hq : s k with
  | none =>
    obtain ⟨D, ho, hR⟩ := hT.own
    have HO := hid ho
    have HA := hid (hR k)
    have HZ := hid (zSl w)
    have HK := hid (kInt k hi)
    have c0 : w.cell? ⟨p, 0, none⟩ = some (.map (some b)) := by rw [Lib.cell_of_heap hT.var]; rfl
    have hc := hE.file
    have hl := World.block_lt_of_cell? w _ hc
    have HF : Hid (Written base w es p b s k j l (.returned (erv es 9)) w) := by
      refine ⟨by rw [hq]; rfl, ?_, Kp.refl _ _⟩
      rw [wrS, hq]
      exact hT
    have HV : Hid (slv (s k) = .slice none 0 0) := by rw [hq]; rfl
    have HH : Hid (Maps.has D (.int .i64 k) = false) := by rw [Hid, (hR k).1, hq]; rfl
    clear hT ho hR hq hr hE
    go_enter Tryd.func15, Tryd.ntmps15
    go_wp2_with (at_lookup; refine wpList_lookup_own_ok _ rfl (.tmp 15) (.tmp 16) 53 rfl 3 26 (Maps.int_keyed Tryd.underlying3) Tryd.underlying53 slR HZ.out _ _ (slR_mk none) b 255 D rfl HO.out _ _ rfl HK.out ?_; intro v ps hv; rw [show dtm none = DataW.nil from rfl, HA.out.2] at hv; obtain rfl := slR_inv hv; rw [HH.out, HV.out]; clear hv)
    go_ret
    exact HF.out
  | some q =>
    obtain ⟨g, L⟩ := q
    by_cases hin : inn L.length j n = true
    · obtain ⟨m, rfl⟩ : ∃ m : Nat, j = m := ⟨j.toNat, by have := inn_true hin; omega⟩
      exact mwrite_ok base w es p b s hT k hi m a n c l hr hn g L hq hin
    · obtain ⟨D, ho, hR⟩ := hT.own
      have HO := hid ho
      have HA := hid (hR k)
      have HZ := hid (zSl w)
      have HK := hid (kInt k hi)
      have c0 : w.cell? ⟨p, 0, none⟩ = some (.map (some b)) := by rw [Lib.cell_of_heap hT.var]; rfl
      have hc := hE.stride
      have hl := World.block_lt_of_cell? w _ hc
      obtain ⟨r1, r2, r3, r4, r5⟩ := hT.row k _ hq
      simp only at r5
      have hin := Bool.eq_false_iff.2 hin
      have HW := hid (within_any L.length j n w (by omega) (by omega) (by omega))
      rw [hin] at HW
      have HF : Hid (Written base w es p b s k j l (.returned (erv es 8)) w) := by
        refine ⟨by rw [hq, wrE, hlen, hin]; rfl, ?_, Kp.refl _ _⟩
        rw [wrS, hq]
        simp only [hlen, hin]
        exact hT
      have HV : Hid (slv (s k) = .slice (some ⟨g, 0, none⟩) L.length L.length) := by rw [hq]; rfl
      have HH : Hid (Maps.has D (.int .i64 k) = true) := by rw [Hid, (hR k).1, hq]; rfl
      generalize L.length = N at *
      clear hT ho hR hq hin hr r4 hE
      go_enter Tryd.func15, Tryd.ntmps15
      go_wp2_with (at_lookup; refine wpList_lookup_own_ok _ rfl (.tmp 15) (.tmp 16) 53 rfl 3 26 (Maps.int_keyed Tryd.underlying3) Tryd.underlying53 slR HZ.out _ _ (slR_mk none) b 255 D rfl HO.out _ _ rfl HK.out ?_; intro v ps hv; rw [show dtm none = DataW.nil from rfl, HA.out.2] at hv; obtain rfl := slR_inv hv; rw [HH.out, HV.out]; clear hv)
      refine HW.out.mono ?_
      rintro e w1 ⟨rfl, rfl⟩
      go_wp2
      go_ret
      exact HF.out
end Go.Proofs.YtbolncddklgecaaDoor
