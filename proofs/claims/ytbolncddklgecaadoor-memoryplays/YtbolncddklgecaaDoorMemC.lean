/- The contracts of the program's memory: Set, Write, Read. -/
import Derived.Test.YtbolncddklgecaaDoorMemB
import Derived.Laws.OwnMore
namespace Go.Proofs.YtbolncddklgecaaDoor
open Go Go.RowKit

theorem infoU8 : (Tryd.prog.info? 5).map (fun i => (i.zero, i.size, i.bytes)) = some (some (.int .u8 0), 1, 1) := by kernel_rfl
theorem info_parts {e : TypeId} {z : Value} {sz by_ : Nat} (h : (Tryd.prog.info? e).map (fun i => (i.zero, i.size, i.bytes)) = some (some z, sz, by_)) : ∃ i, Tryd.prog.info? e = some i ∧ i.zero = some z ∧ i.size = sz ∧ i.bytes = by_ := by
  obtain ⟨i, h1, h2⟩ := Option.map_eq_some_iff.1 h
  simp only [Prod.mk.injEq] at h2
  exact ⟨i, h1, h2.1, h2.2.1, h2.2.2⟩
theorem sizeU8 : (Tryd.prog.info? 5).map (·.size) = some 1 := by
  obtain ⟨i, hi, _, h1, _⟩ := info_parts infoU8
  rw [hi]
  exact congrArg some h1

theorem below_setRow {B : Nat} {w u : World} (h : Below B w u) {g : Nat} (hg : B ≤ g) (cur : Array Value) : Below B w (u.setRow g cur) :=
  ⟨h.os, h.tape, h.output, by simpa using h.size, fun k hk => by rw [setRow_other u g k cur (by omega)]; exact h.block k hk⟩
theorem kp_setRow (w : World) (g : Nat) (cur : Array Value) : Kp [g] w (w.setRow g cur) :=
  ⟨rfl, rfl, rfl, by simp, fun k _ hn => setRow_other w g k cur (fun e => hn (by simp [e]))⟩

/-- 'make([]byte, n)': n bytes 0, in a block of its own. -/
theorem make_any (w : World) (n : Nat) (hn : n ≤ 65537) : ∃ w1, (Instr.makeSlice 26 (.int .i64 (n : Int)) (.int .i64 (n : Int))).run Tryd.prog w = .ok (.slice (some ⟨w.heap.size, 0, none⟩) n n) w1 ∧ Below w.heap.size w w1 ∧ w1.heap[w.heap.size]? = some (.cells (bc (List.replicate n 0)).toArray 5 (0, 0)) := by
  obtain ⟨i0, hi, hz0, hz1, hz2⟩ := info_parts infoU8
  obtain ⟨w1, hmk, ho1, hg1⟩ := run_make_full (P := Tryd.prog) w w.heap.size 26 5 i0 (.int .u8 0) 1 Tryd.underlying26 hi hz0 hz1 .i64 .i64 n (by rw [hz2]; omega) (by simp only [maxLen]; omega) (Nat.le_refl _)
  refine ⟨w1, hmk, (Below.refl _ _).grown hg1 (Nat.le_refl _) (fun k hk => by cases hk), ?_⟩
  rcases ho1.2 with ⟨h, _⟩ | ⟨g', cap', cur, hv, _, hg, _, _, hs, ht⟩
  · cases h
  · cases hv
    rw [hg]
    have e : cur.toList = (madeCells (Value.int .u8 0).cells (n * 1)).toList := by
      rw [← ht, List.take_of_length_le]
      rw [Array.length_toList, hs]
      exact Nat.le_refl _
    have e2 : cur = (bc (List.replicate n 0)).toArray := by
      apply Array.ext'
      rw [e]
      simp only [madeCells, bc, Value.cells]
      apply List.ext_getElem
      · simp
      · intro j h1 h2
        simp [Nat.mod_one]
    rw [e2]

/-- 'copy' of bytes into a row. -/
theorem copy_row (u : World) (g o dl dc : Nat) (l : List UInt8) (hg : u.heap[g]? = some (.cells (bc l).toArray 5 (0, 0))) (a : Option Addr) (n c : Nat) (b : List UInt8) (hr : Rd u a n c b) (hl : o + dl ≤ l.length) :
    ∃ U m, (∀ ty : TypeId, (Builtin.copy_ #[26, 26] ty #[.slice (some ⟨g, o, none⟩) dl dc, .slice a n c]).run Tryd.prog u = .ok (goInt m) U) ∧ U.heap[g]? = some (.cells (bc (wro l o (b.take dl))).toArray 5 (0, 0)) ∧ Kp [g] u U ∧ m = min n dl := by
  have hlen := hr.len
  cases a with
  | none =>
    have h0 := hr.hnil rfl
    have h1 := hr.le
    obtain rfl : n = 0 := by omega
    subst h0
    obtain rfl : b = [] := List.eq_nil_of_length_eq_zero hlen
    refine ⟨u, 0, fun ty => run_copy_nil (P := Tryd.prog) u _ _ _ 5 _ _ _ Tryd.underlying26 (by rw [sizeU8]; rfl), ?_, Kp.refl _ _, by omega⟩
    rw [hg]
    simp [wro]
  | some x =>
    have hcs : (bc (b.take dl)).length = Nat.min n dl := by rw [bc_length, List.length_take, hlen]; exact Nat.min_comm _ _
    have hrun : ∀ ty, (Builtin.copy_ #[26, 26] ty #[.slice (some ⟨g, o, none⟩) dl dc, .slice (some x) n c]).run Tryd.prog u = _ := fun ty => run_copy_row (P := Tryd.prog) u 26 26 ty 5 g o dl dc x n c (bc l).toArray 5 (bc (b.take dl)) Tryd.underlying26 sizeU8 hg hcs (fun j v hj => hr.cells x rfl j v (by
      have hj' : j < (bc (b.take dl)).length := by
        rcases Nat.lt_or_ge j (bc (b.take dl)).length with h' | h'
        · exact h'
        · rw [List.getElem?_eq_none h'] at hj; cases hj
      rw [bc_length, List.length_take] at hj'
      rw [bc, List.getElem?_map, List.getElem?_take_of_lt (by omega)] at hj
      rw [bc, List.getElem?_map]
      exact hj)) (by rw [List.size_toArray, hcs, bc_length]; have h2 : Nat.min n dl ≤ dl := Nat.min_le_right n dl; exact Nat.le_trans (Nat.add_le_add_left h2 o) hl) (bc_one _)
    refine ⟨_, _, hrun, ?_, kp_setRow _ _ _, ?_⟩
    · rw [setRow_heap u g (bc l).toArray _ 5 _ hg]
      have e : (bc l).toArray.toList.take o ++ bc (b.take dl) ++ (bc l).toArray.toList.drop (o + (bc (b.take dl)).length) = bc (wro l o (b.take dl)) := by
        rw [wro, bc_append, bc_append, bc_length]
        simp [bc]
      rw [e]
    · rw [hcs]

def setE (k n : Int) : Nat := if k < 1 ∨ 255 < k ∨ n < 0 ∨ 65536 < n then 1 else 0

/-- Set's answer. -/
def Setted (base : Nat) (w : World) (es : List Addr) (p b : Nat) (s : Int → Mo) (k n : Int) (e : Ending) (w' : World) : Prop :=
  e = .returned (erv es (setE k n)) ∧ Mm base w' p b (if setE k n = 0 then mupd s k (some (w.heap.size, rsz (by_ (s k)) n.toNat)) else s) ∧ Kp [b] w w'

theorem setted_no {base : Nat} {w w' : World} {es : List Addr} {p b : Nat} {s : Int → Mo} {k n : Int} (hT : Mm base w p b s) (hb : Below w.heap.size w w') (hk : setE k n = 1) : Setted base w es p b s k n (.returned (erv es 1)) w' := by
  refine ⟨by rw [hk], ?_, kp_of_below hb _⟩
  rw [hk, if_neg (by omega)]
  exact hT.on hb

set_option maxRecDepth 100000 in
theorem mset_arg (base : Nat) (w : World) (es : List Addr) (hE : E3 w es) (p b : Nat) (s : Int → Mo) (hT : Mm base w p b s) (k n : Int) (hk : k < 1 ∨ 255 < k ∨ n < 0 ∨ 65536 < n) :
    Calls Tryd.prog 11 #[.pointer (some ⟨p, 0, none⟩), .int .i64 k, .int .i64 n] w fun e w' => Setted base w es p b s k n e w' := by
  have hc := hE.arg
  have hl := World.block_lt_of_cell? w _ hc
  have HT := hid (setted_no (k := k) (n := n) (es := es) hT (Below.refl _ _) (by rw [setE, if_pos hk]))
  clear hT hE
  by_cases h1 : k < 1
  · have e1 : decide (k < 1) = true := decide_eq_true h1
    go_enter Tryd.func11, Tryd.ntmps11
    go_wp2
    go_ret
    exact HT.out
  · have e1 : decide (k < 1) = false := decide_eq_false h1
    by_cases h2 : 255 < k
    · have e2 : decide (255 < k) = true := decide_eq_true h2
      go_enter Tryd.func11, Tryd.ntmps11
      go_wp2
      go_ret
      exact HT.out
    · have e2 : decide (255 < k) = false := decide_eq_false h2
      by_cases h3 : n < 0
      · have e3 : decide (n < 0) = true := decide_eq_true h3
        go_enter Tryd.func11, Tryd.ntmps11
        go_wp2
        go_ret
        exact HT.out
      · have e3 : decide (n < 0) = false := decide_eq_false h3
        have e4 : decide (65536 < n) = true := decide_eq_true (by omega)
        go_enter Tryd.func11, Tryd.ntmps11
        go_wp2
        go_ret
        exact HT.out

/-- What is laid into the map. -/
theorem Mm.set {base : Nat} {w U u' : World} {p b : Nat} {s : Int → Mo} (hT : Mm base w p b s) (hbase : base ≤ w.heap.size) {k : Int} (hk : 1 ≤ k ∧ k ≤ 255) {L : List UInt8} (hL : L.length ≤ 65536) (hU : Below w.heap.size w U) (hg : U.heap[w.heap.size]? = some (.cells (bc L).toArray 5 (0, 0))) {D : DataW Unit} {n : Nat}
    (hm : Maps.IsMap D) (hR : Mep D s) (ho : u'.ownsMap Tryd.prog 3 slR b n (D.put (.int .i64 k) (dtm (some (w.heap.size, L))))) (ht : U.mapTurned u' b) : Mm base u' p b (mupd s k (some (w.heap.size, L))) ∧ Kp [b] w u' := by
  have hlt := hT.lt
  have hk1 := kp_turned ht
  have hR' := hR.put hm k (w.heap.size, L)
  have hd := hT.dom.upd hk (some (w.heap.size, L))
  refine ⟨⟨hT.lop, hT.lob, hT.ne, hk1.var ((kp_of_below hU []).var hT.var (by simp)) (by simpa using hT.ne), ⟨_, mtight ho Tryd.underlying3 hR' hd, hR'⟩, hd, fun x q e => ?_, fun x x' q q' e e' h => ?_⟩, (kp_of_below hU [b]).trans hk1 (fun _ h _ => h)⟩
  · by_cases hx : x = k
    · rw [hx, mupd_same] at e
      cases e
      exact ⟨hbase, by simp only; omega, by simp only; omega, hk1.var hg (by simp only [List.mem_cons, List.not_mem_nil, or_false]; omega), hL⟩
    · rw [mupd_other s hx] at e
      obtain ⟨r1, r2, r3, r4, r5⟩ := hT.row x q e
      exact ⟨r1, r2, r3, hk1.var ((kp_of_below hU []).var r4 (by simp)) (by simpa using r3), r5⟩
  · by_cases hx : x = k
    · by_cases hx' : x' = k
      · rw [hx, hx']
      · rw [hx, mupd_same] at e
        rw [mupd_other s hx'] at e'
        cases e
        have := hT.rlt e'
        simp only at h
        omega
    · by_cases hx' : x' = k
      · rw [hx', mupd_same] at e'
        rw [mupd_other s hx] at e
        cases e'
        have := hT.rlt e
        simp only at h
        omega
      · rw [mupd_other s hx] at e
        rw [mupd_other s hx'] at e'
        exact hT.apart x x' q q' e e' h

set_option maxRecDepth 100000 in
set_option maxHeartbeats 1000000 in
theorem mset_ok (base : Nat) (w : World) (es : List Addr) (p b : Nat) (s : Int → Mo) (hT : Mm base w p b s) (hbase : base ≤ w.heap.size) (k : Int) (n : Nat) (hk : ¬ (k < 1 ∨ 255 < k ∨ (n : Int) < 0 ∨ 65536 < (n : Int))) :
    Calls Tryd.prog 11 #[.pointer (some ⟨p, 0, none⟩), .int .i64 k, .int .i64 n] w fun e w' => Setted base w es p b s k n e w' := by
  have hs : setE k n = 0 := by rw [setE, if_neg hk]
  obtain ⟨w1, hmk, hb1, hg1⟩ := make_any w n (by omega)
  have hT1 := hT.on hb1
  obtain ⟨D, ho, hR⟩ := hT1.own
  have HO := hid ho
  have HA := hid (hR k)
  have HZ := hid (zSl w1)
  have HK := hid (kInt k (by omega))
  have c0 : w1.cell? ⟨p, 0, none⟩ = some (.map (some b)) := by rw [Lib.cell_of_heap hT1.var]; rfl
  obtain ⟨ao, m, hv, hrd, hm⟩ := hT1.rd k
  obtain ⟨U, mm, hcp, hU, hkU, _⟩ := copy_row w1 w.heap.size 0 n n (List.replicate n 0) hg1 ao m m _ hrd (by simp)
  have hbU : Below w.heap.size w U := hb1.trans (hkU.below hb1.size (fun k hk => by simp only [List.mem_cons, List.not_mem_nil, or_false] at hk; omega))
  have eU : wro (List.replicate n 0) 0 ((by_ (s k)).take n) = rsz (by_ (s k)) n := by
    rw [wro, rsz, List.take_zero, List.nil_append, Nat.zero_add, List.length_take, List.drop_replicate]
    congr 2
    omega
  rw [eU] at hU
  have HF : Hid (∀ u', u'.ownsMap Tryd.prog 3 slR b (255 + 1) (D.put (.int .i64 k) (dtm (some (w.heap.size, rsz (by_ (s k)) n)))) → U.mapTurned u' b → Setted base w es p b s k n (.returned .nilIface) u') := fun u' ho' ht => by
    obtain ⟨h1, h2⟩ := hT.set hbase (by omega) (by rw [rsz_length]; omega) hbU hU ho.isMap hR ho' ht
    exact ⟨by rw [hs]; rfl, by rw [hs, if_pos rfl]; exact h1, h2⟩
  have HO2 := hid (mown_kp ho hkU (by have := hT.lt; simp only [List.mem_cons, List.not_mem_nil, or_false]; omega))
  have HS : Hid (slR (.slice (some ⟨w.heap.size, 0, none⟩) n n) = some (dtm (some (w.heap.size, rsz (by_ (s k)) n)), [])) := by
    have := slR_mk (some (w.heap.size, rsz (by_ (s k)) n))
    rw [slv] at this
    simp only [rsz_length] at this
    exact this
  have cU : U.cell? ⟨p, 0, none⟩ = some (.map (some b)) := by rw [Lib.cell_of_heap (hT.on hbU).var]; rfl
  have e1 : decide (k < 1) = false := decide_eq_false (by omega)
  have e2 : decide (255 < k) = false := decide_eq_false (by omega)
  have e3 : decide ((n : Int) < 0) = false := decide_eq_false (by omega)
  have e4 : decide (65536 < (n : Int)) = false := decide_eq_false (by omega)
  have HV := hid hv
  clear hT hT1 ho hR hrd hv hU hkU hbU hg1 hb1 hk hs eU hm
  go_enter Tryd.func11, Tryd.ntmps11
  go_wp2_with (first | (at_lookup; refine wpList_lookup_own _ rfl (.tmp 29) (.tmp 30) 53 rfl 3 26 (Maps.int_keyed Tryd.underlying3) Tryd.underlying53 slR HZ.out _ _ (slR_mk none) b 255 D rfl HO.out _ _ rfl HK.out ?_; intro v ps hv; rw [show dtm none = DataW.nil from rfl, HA.out.2] at hv; obtain rfl := slR_inv hv; rw [HV.out]; clear hv) | (refine wpList_mapUpdate_in _ rfl (.tmp 36) (.tmp 37) (.tmp 38) 53 rfl 3 26 (Maps.int_keyed Tryd.underlying3) Tryd.underlying53 slR b 255 D rfl HO2.out (by decide) _ _ _ rfl rfl HK.out _ _ HS.out ?_; intro w2 o2 t2; have HA := hid (HF.out _ o2 t2); clear o2 t2))
  go_ret
  exact HA.out
end Go.Proofs.YtbolncddklgecaaDoor
