/- A slice of the document's images, as it comes in: opened. -/
import Derived.Test.YtpcepgecbdjdfaaDoorBg
import Derived.Test.YtpcepgecbdjdfaaDoorBa
import Derived.Test.YtpcepgecbdjdfaaDoorChecked
import Derived.Lib.SmallJoins
import Derived.ProofKit
import Derived.OpenShut
import Derived.ShutString
import Derived.ChangeOld
import Derived.SizedLaws
import Derived.Laws.StructEq
import Derived.BigQuiet
import Derived.Test.YtpcepgecbdjdfaaDoorBe
import Derived.Test.YtpcepgecbdjdfaaDoorBb
import Derived.Maps.OwnSet
import Derived.Maps.OwnOps
import Derived.Maps.Range
import Derived.Lib.SlKeysI
import Derived.Lib.Builder
import Derived.Laws.CopyRow
import Derived.Laws.OwnMore
import Derived.Laws.IdiomCopy
import Derived.Laws.BitsAllLaws
import Derived.Lib.SlBytesConst
import Derived.Test.YtpcepgecbdjdfaaDoorBh
import Derived.Test.YtpcepgecbdjdfaaDoorBf
import Derived.Deep.RegionHeldLaw
namespace Go.Proofs.YtpcepgecbdjdfaaDoor
open Go Go.ChangeShapes Go.WideShapes Go.ChangeAt Go.RowKit Go.Deep

theorem i64_of {n : Int} (h : (Lit.int .i64 n).wf = true) : I64 n := by
  unfold I64
  simpa [Lit.wf, IntKind.min, IntKind.max, IntKind.signed, IntKind.bits] using h

theorem cellsImg : Tryd.prog.cellsOf 47 = 4 := by kernel_rfl

variable {H : Type} {enc : TypeId × Value → H} {W : World} {d : DataW H} {p : List MemPlace}

set_option maxRecDepth 100000 in
theorem open_pts {k : Nat} {c : Value} {x : DataW H × List MemPlace} (h : DataW.trod enc Tryd.prog W 0 (fun _ => true) true k 41 [c] = some x) : ∃ a m c' l, c = .slice a m c' ∧ RdI .u32 W a m c' l := by
  rcases open_ints Tryd.underlying41 Tryd.underlying58 (by kernel_rfl) h with ⟨hcs, _⟩ | ⟨y, l', c', zs, hcs, _, hl', hm', hz, hD, hcell, hwz⟩
  · simp only [List.cons.injEq, and_true] at hcs
    subst hcs
    exact ⟨none, 0, 0, [], rfl, RdI.nil _ W⟩
  · simp only [List.cons.injEq, and_true] at hcs
    subst hcs
    have hz1 : zs.length = c' := by simpa using hz
    exact ⟨some y, l', c', _, rfl, RdI.ofRow hl' hm' (by rw [hz1, Nat.mul_one]) hcell hwz⟩

set_option maxRecDepth 100000 in
theorem open_img {n : Nat} {cs : List Value} {x : DataW H × List MemPlace} (h : DataW.trod enc Tryd.prog W 0 (fun _ => true) true n 47 cs = some x) : ∃ g : Gv, cs = (gvv g).toList ∧ GOk W g := by
  obtain ⟨xs, k, _, _, hl, hlen, hx⟩ := DataW.trod_struct Tryd.underlying47 h
  rw [cellsImg] at hl
  match cs, hl, xs, hlen with
  | [c0, c1, c2, c3], _, [x0, x1, x2, x3], _ =>
    have h0 : DataW.trod enc Tryd.prog W 0 (fun _ => true) true k 3 (([c0, c1, c2, c3].drop 0).take (Tryd.prog.cellsOf 3)) = some x0 := hx 0 _ rfl
    have h1 : DataW.trod enc Tryd.prog W 0 (fun _ => true) true k 3 (([c0, c1, c2, c3].drop 1).take (Tryd.prog.cellsOf 3)) = some x1 := hx 1 _ rfl
    have h2 : DataW.trod enc Tryd.prog W 0 (fun _ => true) true k 3 (([c0, c1, c2, c3].drop 2).take (Tryd.prog.cellsOf 3)) = some x2 := hx 2 _ rfl
    have h3 : DataW.trod enc Tryd.prog W 0 (fun _ => true) true k 41 (([c0, c1, c2, c3].drop 3).take (Tryd.prog.cellsOf 41)) = some x3 := hx 3 _ rfl
    have k3 : Tryd.prog.cellsOf 3 = 1 := by kernel_rfl
    have k6 : Tryd.prog.cellsOf 41 = 1 := by kernel_rfl
    simp only [k3, k6, List.drop_zero, List.drop_succ_cons, List.take_succ_cons, List.take_zero] at h0 h1 h2 h3
    obtain ⟨a0, e0, _, w0⟩ := DataW.trod_int Tryd.underlying3 h0
    obtain ⟨a1, e1, _, w1⟩ := DataW.trod_int Tryd.underlying3 h1
    obtain ⟨a2, e2, _, w2⟩ := DataW.trod_int Tryd.underlying3 h2
    simp only [List.cons.injEq, and_true] at e0 e1 e2
    subst e0 e1 e2
    obtain ⟨a, m, c, pix, rfl, hp⟩ := open_pts h3
    exact ⟨⟨a0, a1, a2, a, m, c, pix⟩, rfl, ⟨i64_of w0, i64_of w1, i64_of w2, hp⟩⟩

set_option maxRecDepth 100000 in
theorem open_imgs {a : Option Addr} {n c : Nat} (h : DataW.Trod enc Tryd.prog W 0 (fun _ => true) true 25 (.slice a n c) d p) : ∃ gs, RdG W a n c gs := by
  obtain ⟨fuel, hf⟩ := h
  rcases open_slice Tryd.underlying25 hf with ⟨hcs, _⟩ | ⟨a, len, cap, mm, k, D, Pl, hcs, hb, hl, hm, hmm, _, hx⟩
  · simp [Value.cells] at hcs
    obtain ⟨rfl, rfl, rfl⟩ := hcs
    exact ⟨[], RdG.nil W⟩
  · simp [Value.cells] at hcs
    obtain ⟨rfl, rfl, rfl⟩ := hcs
    simp only [if_true] at hmm
    subst hmm
    rw [cellsImg] at hx
    have each : ∀ i, i < n → ∃ g : Gv, GOk W g ∧ ∀ q v, (gvv g)[q]? = some v → W.cell? (a.add (i * 4 + q)) = some v := fun i hi => by
      obtain ⟨cs', h1, h2⟩ := hx i (by omega)
      obtain ⟨g, rfl, hg⟩ := open_img h2
      refine ⟨g, hg, fun q v hq => ?_⟩
      obtain ⟨_, _, hcc⟩ := World.cells?_some h1
      have hlt : q < 4 := by
        have := (Array.getElem?_eq_some_iff.1 hq).1
        simpa [gvv] using this
      have := hcc q hlt
      rw [Array.getElem?_toList, hq, add_add] at this
      exact this
    haveI : Inhabited Gv := ⟨gz⟩
    obtain ⟨f, hfn⟩ := choose_lt (α := Gv) each
    by_cases hn : n = 0
    · subst hn
      exact ⟨[], rfl, hl, hm, (fun h => by cases h), fun h => absurd h (by omega), by simp⟩
    obtain ⟨b, off, spot⟩ := a
    have hspot : spot = none := by
      have z0 := (hfn 0 (by omega)).2 0 _ rfl
      simpa [Addr.add] using World.cell?_spot z0
    subst hspot
    have q0 := (hfn 0 (by omega)).2 0 _ rfl
    refine ⟨(List.range n).map f, by simp, hl, hm, (fun h => by cases h), fun _ => ⟨b, off, rfl, ?_, fun j g hj i v hv => ?_⟩, fun g hg => ?_⟩
    · rw [add_plain] at q0
      exact World.block_lt_of_cell? W _ q0
    · rw [List.getElem?_map] at hj
      obtain ⟨i', hi', rfl⟩ := Option.map_eq_some_iff.1 hj
      have hlt : j < n := by
        rcases Nat.lt_or_ge j n with h' | h'
        · exact h'
        · rw [List.getElem?_eq_none (by simpa using h')] at hi'; cases hi'
      rw [List.getElem?_range hlt] at hi'
      cases hi'
      rw [← add_plain]
      exact (hfn j hlt).2 i v hv
    · obtain ⟨i, hi, rfl⟩ := List.mem_map.1 hg
      exact (hfn i (List.mem_range.1 hi)).1
end Go.Proofs.YtpcepgecbdjdfaaDoor

/- Slices of rectangles, numbers and children: compared, copied, joined. Written by state/mk_stab.py. -/
namespace Go.Proofs.YtpcepgecbdjdfaaDoor
open Go Go.RowKit

theorem infoMP {P : Program} {e : TypeId} {z : Value} {n m : Nat} (h : (P.info? e).map (fun i => (i.zero, i.size, i.bytes)) = some (some z, n, m)) : ∃ i, P.info? e = some i ∧ i.zero = some z ∧ i.size = n ∧ i.bytes = m := by
  obtain ⟨i, hi, hz⟩ := Option.map_eq_some_iff.1 h
  simp only [Prod.mk.injEq] at hz
  exact ⟨i, hi, hz.1, hz.2.1, hz.2.2⟩
theorem fitsM {need b : Nat} (h : need ≤ 1000000000) (hb : b ≤ 32) : ∀ old, old < need → Builtin.nextslicecap need old * b ≤ 281474976710656 := fun old ho => by
  have h1 := nextslicecap_near ho
  have h2 : Builtin.nextslicecap need old * b ≤ Builtin.nextslicecap need old * 32 := Nat.mul_le_mul_left _ hb
  omega

/-- Whether two are the same. -/
def leq (x y : List Int) : Bool := decide (x = y)
def leqs (l m : List (List Int)) : Bool := decide (l = m)
theorem leqs_cons (x y : List Int) (l m : List (List Int)) : leqs (x :: l) (y :: m) = (leq x y && leqs l m) := by
  unfold leqs leq
  rw [Bool.eq_iff_iff]
  simp
theorem leqs_len {l m : List (List Int)} (h : l.length ≠ m.length) : leqs l m = false := by
  unfold leqs
  rw [decide_eq_false_iff_not]
  intro e
  exact h (by rw [e])
theorem leqs_same (l : List (List Int)) : leqs l l = true := decide_eq_true rfl
theorem leq_one (x y : Int) : leq [x] [y] = (x == y) := by
  unfold leq
  rw [Bool.eq_iff_iff]
  simp

/-- A row of slices: each cell of the block B bears one. -/
structure RdL (m : Nat) (w : World) (B : Nat) (L : List (List (List Int))) : Prop where
  each : ∀ (j : Nat) l, L[j]? = some l → ∃ a n c, w.cell? ⟨B, j, none⟩ = some (.slice a n c) ∧ RdM m w a n c l ∧ B < w.heap.size
theorem RdL.on {m : Nat} {w u : World} {B : Nat} {L : List (List (List Int))} (h : RdL m w B L) (hb : Below w.heap.size w u) : RdL m u B L :=
  ⟨fun j l hl => by
    obtain ⟨a, n, c, h1, h2, h3⟩ := h.each j l hl
    exact ⟨a, n, c, by rw [hb.cell h3]; exact h1, h2.on hb, Nat.lt_of_lt_of_le h3 hb.size⟩⟩
theorem flatten_take_snoc {L : List (List (List Int))} {j : Nat} {l : List (List Int)} (h : L[j]? = some l) : (L.take (j + 1)).flatten = (L.take j).flatten ++ l := by
  rw [List.take_add_one, h]
  simp
theorem flatten_take_le (L : List (List (List Int))) (j : Nat) : (L.take j).flatten.length ≤ L.flatten.length := by
  have : L.flatten = (L.take j).flatten ++ (L.drop j).flatten := by rw [← List.flatten_append, List.take_append_drop]
  rw [this, List.length_append]
  omega

theorem eqlM4_guard (x y : Operand) (xs ys : Array Value) (w : World) : (eqGuard .eql 97 x y (.agg xs) (.agg ys)).run Tryd.prog w = .ok () w := run_eqGuard_agg w .eql 97 x y xs ys (by kernel_rfl)
theorem neqM4_guard (x y : Operand) (xs ys : Array Value) (w : World) : (eqGuard .neq 97 x y (.agg xs) (.agg ys)).run Tryd.prog w = .ok () w := run_eqGuard_agg w .neq 97 x y xs ys (by kernel_rfl)
theorem equalM4 (x0 x1 x2 x3 y0 y1 y2 y3 : Int) (w : World) : (Op.equalIn 10000 97 (.agg #[.int .i64 x0, .int .i64 x1, .int .i64 x2, .int .i64 x3]) (.agg #[.int .i64 y0, .int .i64 y1, .int .i64 y2, .int .i64 y3])).run Tryd.prog w = .ok (leq [x0, x1, x2, x3] [y0, y1, y2, y3]) w := by
  have u3 := Tryd.underlying3
  have a3 := Tryd.isAgg3
  have z3 := Tryd.sizeOf3
  have hS : Tryd.prog.underlying 97 = some (.struct (Tryd.prog.fieldsOf 97)) := by kernel_rfl
  have hp : Tryd.prog.stoodInHeld 97 = false := by kernel_rfl
  rw [show (10000 : Nat) = 9999 + 1 from rfl, run_equalIn_agg w 9999 97 _ _ hS hp]
  simp only [Program.fieldsOf, Tryd.underlying97]
  go_simp
  unfold leq
  by_cases h0 : x0 = y0 <;> by_cases h1 : x1 = y1 <;> by_cases h2 : x2 = y2 <;> by_cases h3 : x3 = y3 <;> simp [h0, h1, h2, h3]
theorem eqlM4 (x0 x1 x2 x3 y0 y1 y2 y3 : Int) (w : World) : (binOp .eql 97 (.agg #[.int .i64 x0, .int .i64 x1, .int .i64 x2, .int .i64 x3]) (.agg #[.int .i64 y0, .int .i64 y1, .int .i64 y2, .int .i64 y3])).run Tryd.prog w = .ok (.bool (leq [x0, x1, x2, x3] [y0, y1, y2, y3])) w := by
  rw [run_eql_struct, equalM4]
  rfl
theorem neqM4 (x0 x1 x2 x3 y0 y1 y2 y3 : Int) (w : World) : (binOp .neq 97 (.agg #[.int .i64 x0, .int .i64 x1, .int .i64 x2, .int .i64 x3]) (.agg #[.int .i64 y0, .int .i64 y1, .int .i64 y2, .int .i64 y3])).run Tryd.prog w = .ok (.bool (!leq [x0, x1, x2, x3] [y0, y1, y2, y3])) w := by
  rw [run_neq_struct, equalM4]
  rfl



set_option maxRecDepth 100000 in
set_option maxHeartbeats 1000000 in
theorem equal1_any (a a' : Option Addr) (n c n' c' : Nat) (l m : List (List Int)) (w : World) (h : RdM 1 w a n c l) (h' : RdM 1 w a' n' c' m) :
    Calls Tryd.prog 93 #[.slice a n c, .slice a' n' c'] w fun e w' => e = .returned (.bool (leqs l m)) ∧ ∃ q, w' = w.drewN q := by
  have hl := h.len
  have hl' := h'.len
  have hn63 := h.small.1
  have hn63' := h'.small.1
  by_cases hnn : n = n'
  · subst hnn
    have H := hid h
    have H' := hid h'
    have HL := hid hl
    have HL' := hid hl'
    clear h h' hl hl'
    go_enter Tryd.func93, Tryd.ntmps93
    go_wp2
    go_loopw [13] (fun i wr => ∃ j : Nat, i = .int .i64 j ∧ j ≤ n ∧ leqs (l.drop j) (m.drop j) = leqs l m ∧ ∃ q, wr = w.drewN q) (fun i _ => n - (numOf i).toNat)
    case atStart => exact ⟨0, rfl, by omega, rfl, 0, rfl⟩
    case round =>
      obtain ⟨j, rfl, hj, hq, q, rfl⟩ := hrel
      by_cases hgo : j < n
      · have e1 : decide ((j : Int) < n) = true := decide_eq_true (by omega)
        have e2 : (j : Int) < n := by omega
        obtain ⟨blx, offx, x0, rfl, _, hx, c0⟩ := H.out.el1 hgo
        obtain ⟨bly, offy, y0, rfl, _, hy, d0⟩ := H'.out.el1 hgo
        have HD : Hid (leqs l m = (leq [x0] [y0] && leqs (l.drop (j + 1)) (m.drop (j + 1)))) := by
          rw [Hid, ← hq, drop_at' hx, drop_at' hy, leqs_cons]
        clear hx hy hq
        have hn0 : (x0 != y0) = !leq [x0] [y0] := by rw [leq_one]; rfl
        cases hs : leq [x0] [y0]
        · rw [hs] at hn0
          have HE : Hid (leqs l m = false) := by rw [Hid, HD.out, hs]; rfl
          clear HD
          go_wp2
          go_quiet (fail)
          go_wp2
          go_ret
          rw [HE.out, World.drewN_drewN]
          exact ⟨rfl, _, rfl⟩
        · rw [hs] at hn0
          have HE : Hid (leqs (l.drop (j + 1)) (m.drop (j + 1)) = leqs l m) := by rw [Hid, HD.out, hs]; rfl
          clear HD
          go_wp2
          go_quiet (fail)
          go_wp2
          go_roundw
          case rel => exact ⟨j + 1, by go_num, by omega, HE.out, _, rfl⟩
          case measure => simp [numOf]; omega
      · have e1 : decide ((j : Int) < n) = false := decide_eq_false (by omega)
        have HE : Hid (leqs l m = true) := by
          rw [Hid, ← hq, List.drop_eq_nil_of_le (by rw [HL.out]; omega), List.drop_eq_nil_of_le (by rw [HL'.out]; omega)]
          rfl
        clear hq
        go_wp2
        go_ret
        rw [HE.out]
        exact ⟨rfl, _, rfl⟩
  · have HE : Hid (leqs l m = false) := leqs_len (by omega)
    have e1 : ((n : Int) == n') = false := by simp; omega
    clear h h' hl hl'
    go_enter Tryd.func93, Tryd.ntmps93
    go_wp2
    go_ret
    rw [HE.out]
    exact ⟨rfl, 0, rfl⟩




theorem infoM4 : (Tryd.prog.info? 97).map (fun i => (i.zero, i.size, i.bytes)) = some (some (.agg #[.int .i64 0, .int .i64 0, .int .i64 0, .int .i64 0]), 4, 32) := by kernel_rfl
theorem infoM1 : (Tryd.prog.info? 3).map (fun i => (i.zero, i.size, i.bytes)) = some (some (.int .i64 0), 1, 8) := by kernel_rfl







end Go.Proofs.YtpcepgecbdjdfaaDoor

/- Whether a buffer has room: the document's condition as whole numbers, the program's Room, the document's Room; awake. -/
namespace Go.Proofs.YtpcepgecbdjdfaaDoor
open Go Go.RowKit

/-- Room's answer: 7 is ErrFormat, 8 ErrStride. -/
def rmE (size off w h st fm : Int) : Nat := if fm ≠ 0 ∧ fm ≠ 1 then 7 else if w < 1 ∨ h < 1 ∨ off < 0 ∨ st < 4 * w ∨ size < off + st * h then 8 else 0

theorem tdiv4 (st w : Int) (hw : 1 ≤ w) : st.tdiv 4 < w ↔ st < 4 * w := by
  by_cases h : 0 ≤ st
  · rw [Int.tdiv_eq_ediv_of_nonneg h]
    omega
  · have h1 : st.tdiv 4 = -((-st).tdiv 4) := by rw [Int.neg_tdiv]; omega
    rw [h1, Int.tdiv_eq_ediv_of_nonneg (by omega)]
    omega
theorem tdivh {n h st : Int} (hn : 0 ≤ n) (hh : 1 ≤ h) : n.tdiv h < st ↔ n < st * h := by
  rw [Int.tdiv_eq_ediv_of_nonneg hn]
  exact Int.ediv_lt_iff_lt_mul (by omega)
theorem tdiv_in {n h : Int} (hn : 0 ≤ n) (hn2 : n ≤ 9223372036854775807) (hh : 1 ≤ h) : -9223372036854775808 ≤ n.tdiv h ∧ n.tdiv h ≤ 9223372036854775807 := by
  rw [Int.tdiv_eq_ediv_of_nonneg hn]
  have h1 := Int.ediv_nonneg hn (show 0 ≤ h by omega)
  have h2 := Int.ediv_le_self h hn
  omega
theorem tdiv4_in (st : Int) (h : -9223372036854775808 ≤ st ∧ st ≤ 9223372036854775807) : -9223372036854775808 ≤ st.tdiv 4 ∧ st.tdiv 4 ≤ 9223372036854775807 := by
  by_cases h0 : 0 ≤ st
  · exact tdiv_in h0 h.2 (by decide)
  · have h1 : st.tdiv 4 = -((-st).tdiv 4) := by rw [Int.neg_tdiv]; omega
    rw [h1, Int.tdiv_eq_ediv_of_nonneg (by omega)]
    omega
theorem mul_pos' {a b : Int} (ha : 0 < a) (hb : 0 < b) : 0 < a * b := Int.mul_pos ha hb


/-- A number of the machine. -/
abbrev J64 (x : Int) : Prop := -9223372036854775808 ≤ x ∧ x ≤ 9223372036854775807

theorem jwf64 {x : Int} (h : (Lit.int .i64 x).wf = true) : J64 x := by simpa [Lit.wf, IntKind.min, IntKind.max, IntKind.signed, IntKind.bits] using h
theorem rmE_le (size off wd h st fm : Int) : rmE size off wd h st fm ≤ 16 := by
  unfold rmE
  repeat' split
  all_goals omega

set_option maxRecDepth 100000 in
theorem room_at (es : List Addr) (size off wd h st fm : Int) (w : World) (c7 : w.cell? ⟨3, 0, none⟩ = some (erv es 7)) (c8 : w.cell? ⟨2, 0, none⟩ = some (erv es 8)) (hz : J64 size) (ho : J64 off) (_hw : J64 wd) (hh : J64 h) (hs : J64 st) :
    Calls Tryd.prog 34 #[.int .i64 size, .int .i64 off, .int .i64 wd, .int .i64 h, .int .i64 st, .int .i64 fm] w fun e w' => e = .returned (erv es (rmE size off wd h st fm)) ∧ w' = w := by
  have l7 := World.block_lt_of_cell? w _ c7
  have l8 := World.block_lt_of_cell? w _ c8
  by_cases hf : fm ≠ 0 ∧ fm ≠ 1
  · have HR : Hid (rmE size off wd h st fm = 7) := by rw [Hid, rmE, if_pos hf]
    have e1 : (fm != 0) = true := by simpa using hf.1
    have e2 : (fm != 1) = true := by simpa using hf.2
    clear hf
    go_enter Tryd.func34, Tryd.ntmps34
    go_wp2
    go_ret
    rw [HR.out]
    exact ⟨rfl, rfl⟩
  · have HR : Hid (rmE size off wd h st fm = if wd < 1 ∨ h < 1 ∨ off < 0 ∨ st < 4 * wd ∨ size < off + st * h then 8 else 0) := by rw [Hid, rmE, if_neg hf]
    have h4 := tdiv4_in st hs
    have HF : Hid (¬ (fm ≠ 0 ∧ fm ≠ 1)) := hf
    generalize rmE size off wd h st fm = r at *
    clear hf
    have key : ∀ (_ : Unit), Hid (r = if wd < 1 ∨ h < 1 ∨ off < 0 ∨ st < 4 * wd ∨ size < off + st * h then 8 else 0) → (fm != 0) = true ∧ (fm != 1) = false ∨ (fm != 0) = false → Calls Tryd.prog 34 #[.int .i64 size, .int .i64 off, .int .i64 wd, .int .i64 h, .int .i64 st, .int .i64 fm] w fun e w' => e = .returned (erv es r) ∧ w' = w := by
      intro _ HR hf
      by_cases h1 : wd < 1
      · have e3 : decide (wd < 1) = true := decide_eq_true h1
        rw [if_pos (.inl h1)] at HR
        rcases hf with ⟨e1, e2⟩ | e1 <;>
        · go_enter Tryd.func34, Tryd.ntmps34
          go_wp2
          go_ret
          rw [HR.out]
          exact ⟨rfl, rfl⟩
      · have e3 : decide (wd < 1) = false := decide_eq_false h1
        by_cases h2 : h < 1
        · have e4 : decide (h < 1) = true := decide_eq_true h2
          rw [if_pos (.inr (.inl h2))] at HR
          rcases hf with ⟨e1, e2⟩ | e1 <;>
          · go_enter Tryd.func34, Tryd.ntmps34
            go_wp2
            go_ret
            rw [HR.out]
            exact ⟨rfl, rfl⟩
        · have e4 : decide (h < 1) = false := decide_eq_false h2
          by_cases h3 : off < 0
          · have e5 : decide (off < 0) = true := decide_eq_true h3
            rw [if_pos (.inr (.inr (.inl h3)))] at HR
            rcases hf with ⟨e1, e2⟩ | e1 <;>
            · go_enter Tryd.func34, Tryd.ntmps34
              go_wp2
              go_ret
              rw [HR.out]
              exact ⟨rfl, rfl⟩
          · have e5 : decide (off < 0) = false := decide_eq_false h3
            by_cases h4 : st < 4 * wd
            · have e6 : decide (st.tdiv 4 < wd) = true := decide_eq_true ((tdiv4 st wd (by omega)).2 h4)
              rw [if_pos (.inr (.inr (.inr (.inl h4))))] at HR
              rcases hf with ⟨e1, e2⟩ | e1 <;>
              · go_enter Tryd.func34, Tryd.ntmps34
                go_wp2
                go_ret
                rw [HR.out]
                exact ⟨rfl, rfl⟩
            · have e6 : decide (st.tdiv 4 < wd) = false := decide_eq_false (fun q => h4 ((tdiv4 st wd (by omega)).1 q))
              have hp := mul_pos' (a := st) (b := h) (by omega) (by omega)
              by_cases h5 : size < off
              · have e7 : decide (size < off) = true := decide_eq_true h5
                rw [if_pos (.inr (.inr (.inr (.inr (by omega)))))] at HR
                clear hp
                rcases hf with ⟨e1, e2⟩ | e1 <;>
                · go_enter Tryd.func34, Tryd.ntmps34
                  go_wp2
                  go_ret
                  rw [HR.out]
                  exact ⟨rfl, rfl⟩
              · have e7 : decide (size < off) = false := decide_eq_false h5
                have hd := tdiv_in (n := size - off) (h := h) (by omega) (by omega) (by omega)
                have hq := tdivh (n := size - off) (h := h) (st := st) (by omega) (by omega)
                have hn0 : ¬ h = 0 := by omega
                by_cases h6 : size < off + st * h
                · have e8 : decide ((size - off).tdiv h < st) = true := decide_eq_true (hq.2 (by omega))
                  rw [if_pos (.inr (.inr (.inr (.inr h6))))] at HR
                  clear hp hq h6
                  rcases hf with ⟨e1, e2⟩ | e1 <;>
                  · go_enter Tryd.func34, Tryd.ntmps34
                    go_wp2
                    go_ret
                    rw [HR.out]
                    exact ⟨rfl, rfl⟩
                · have e8 : decide ((size - off).tdiv h < st) = false := decide_eq_false (fun q => h6 (by have := hq.1 q; omega))
                  rw [if_neg (by omega)] at HR
                  clear hp hq h6
                  rcases hf with ⟨e1, e2⟩ | e1 <;>
                  · go_enter Tryd.func34, Tryd.ntmps34
                    go_wp2
                    go_ret
                    rw [HR.out]
                    exact ⟨rfl, rfl⟩
    refine key () HR ?_
    have := HF.out
    by_cases h0 : fm = 0
    · exact .inr (by simp [h0])
    · have h1 : fm = 1 := by omega
      exact .inl ⟨by simp [h1], by simp [h1]⟩


end Go.Proofs.YtpcepgecbdjdfaaDoor

/- Memories as a function of their keys, and the map that holds them; no walk. -/
namespace Go.Proofs.YtpcepgecbdjdfaaDoor
open Go Go.RowKit

/-- A memory: the block that has its bytes, and these. -/
abbrev Mo := Option (Nat × List UInt8)

/-- Its bytes. -/
def by_ : Mo → List UInt8
  | none => []
  | some q => q.2

/-- As a value. -/
def slv : Mo → Value
  | none => .slice none 0 0
  | some q => .slice (some ⟨q.1, 0, none⟩) q.2.length q.2.length

def dtm : Mo → DataW Unit
  | none => .nil
  | some q => .agg [.lit (.int .i64 q.1), .lit (.int .i64 q.2.length)]

def slR : Value → Option (DataW Unit × List MemPlace)
  | .slice none 0 0 => some (.nil, [])
  | .slice (some ⟨g, 0, none⟩) n c => if n = c then some (.agg [.lit (.int .i64 g), .lit (.int .i64 n)], []) else none
  | _ => none

theorem slR_mk (q : Mo) : slR (slv q) = some (dtm q, []) := by
  cases q with
  | none => rfl
  | some q => simp [slR, slv, dtm]

theorem slR_inv {x : Value} {q : Mo} {ps : List MemPlace} (h : slR x = some (dtm q, ps)) : x = slv q := by
  unfold slR at h
  split at h
  · cases q with
    | none => rfl
    | some q => simp [dtm] at h
  · rename_i g n c
    split at h
    · rename_i e
      subst e
      cases q with
      | none => simp [dtm] at h
      | some q =>
        simp only [dtm, Option.some.injEq, Prod.mk.injEq, DataW.agg.injEq, List.cons.injEq, DataW.lit.injEq, Lit.int.injEq, true_and, and_true] at h
        obtain ⟨⟨h1, h2⟩, _⟩ := h
        have e1 : g = q.1 := by omega
        have e2 : n = q.2.length := by omega
        rw [e1, e2]
        rfl
    · cases h
  · cases h

/-- What is there. -/
def Mep (D : DataW Unit) (s : Int → Mo) : Prop := ∀ k : Int, Maps.has D (.int .i64 k) = (s k).isSome ∧ D.atKey (.int .i64 k) .nil = dtm (s k)

def mupd (s : Int → Mo) (k : Int) (q : Mo) : Int → Mo := fun x => if x = k then q else s x

theorem mupd_same (s : Int → Mo) (k : Int) (q : Mo) : mupd s k q k = q := by simp [mupd]
theorem mupd_other (s : Int → Mo) {k x : Int} (h : x ≠ k) (q : Mo) : mupd s k q x = s x := by simp [mupd, h]

theorem key_ne {x k : Int} (h : x ≠ k) : Lit.int .i64 x ≠ Lit.int .i64 k := by simpa using h
theorem isKey (k : Int) : WideAt.IsKeyLit (.int .i64 k) := trivial

theorem Mep.put {D : DataW Unit} {s : Int → Mo} (h : Mep D s) (hm : Maps.IsMap D) (k : Int) (q : Nat × List UInt8) : Mep (D.put (.int .i64 k) (dtm (some q))) (mupd s k (some q)) := fun x => by
  by_cases hx : x = k
  · subst hx
    rw [mupd_same, Maps.has_put_same hm (isKey _), Maps.atKey_put_same hm (isKey _)]
    exact ⟨rfl, rfl⟩
  · rw [mupd_other s hx, Maps.has_put_other (key_ne hx), Maps.atKey_put_other (key_ne hx)]
    exact h x

theorem mep_empty : Mep (.map []) (fun _ => none) := fun _ => ⟨rfl, rfl⟩

/-- What is there has a key from 1 to 255. -/
def Mdom (s : Int → Mo) : Prop := ∀ k, (s k).isSome = true → 1 ≤ k ∧ k ≤ 255

theorem Mdom.upd {s : Int → Mo} (h : Mdom s) {k : Int} (hk : 1 ≤ k ∧ k ≤ 255) (q : Mo) : Mdom (mupd s k q) := fun x hx => by
  by_cases e : x = k
  · rw [e]; exact hk
  · rw [mupd_other s e] at hx; exact h x hx

/-! The keys, rising. -/
def idl : List Int := (List.range 255).map fun i => ((i + 1 : Nat) : Int)
def mkeys (s : Int → Mo) : List Int := idl.filter fun k => (s k).isSome

theorem mem_idl {x : Int} : x ∈ idl ↔ 1 ≤ x ∧ x ≤ 255 := by
  simp only [idl, List.mem_map, List.mem_range]
  constructor
  · rintro ⟨i, hi, rfl⟩
    omega
  · intro h
    exact ⟨(x - 1).toNat, by omega, by omega⟩
theorem idl_rising : idl.Pairwise (· < ·) := by
  rw [idl, List.pairwise_map]
  exact List.pairwise_lt_range.imp (fun h => by omega)
theorem idl_len : idl.length = 255 := by simp [idl]

variable {P : Program} {kt : TypeId} {w : World} {b n : Nat} {D : DataW Unit} {s : Int → Mo}

theorem mkeys_perm (h : w.ownsMap P kt slR b n D) (hk : P.underlying kt = some (.int .i64)) (hR : Mep D s) (hg : Mdom s) : (mkeys s).Perm (intKeys D) := by
  have hC : CollectedI D (fun _ => false) (mkeys s) := ⟨(idl_rising.filter _).imp (fun h => by omega), fun x => by
    rw [mkeys, List.mem_filter, mem_idl, (hR x).1]
    constructor
    · intro h
      simp [h.2]
    · intro h
      simp only [and_true] at h
      exact ⟨hg x h, h⟩⟩
  exact hC.perm h (Maps.int_keyed hk) hk (fun _ => rfl)

/-- The bound of a map that holds such keys. -/
theorem mtight (h : w.ownsMap P kt slR b n D) (hk : P.underlying kt = some (.int .i64)) (hR : Mep D s) (hg : Mdom s) : w.ownsMap P kt slR b 255 D := by
  have e1 : Maps.size D = (mkeys s).length := by
    rw [(mkeys_perm h hk hR hg).length_eq]
    obtain ⟨es, rfl, _⟩ := h.entries (Maps.int_keyed hk)
    simp [intKeys, Maps.size]
  have e2 : (mkeys s).length ≤ 255 := by
    rw [← idl_len]
    exact List.length_filter_le _ _
  obtain ⟨es, clock, hb, F, hs, rfl⟩ := h
  refine ⟨es, clock, hb, F, ?_, rfl⟩
  rw [← e1] at e2
  simpa [Maps.size, length_sorted] using e2

/-! What the calls do to bytes. -/
/-- Of another size. -/
def rsz (l : List UInt8) (n : Nat) : List UInt8 := l.take n ++ List.replicate (n - l.length) 0
theorem rsz_length (l : List UInt8) (n : Nat) : (rsz l n).length = n := by
  rw [rsz, List.length_append, List.length_take, List.length_replicate]
  omega
/-- Written over. -/
def wro (l : List UInt8) (k : Nat) (b : List UInt8) : List UInt8 := l.take k ++ b ++ l.drop (k + b.length)
theorem wro_length {l : List UInt8} {k : Nat} {b : List UInt8} (h : k + b.length ≤ l.length) : (wro l k b).length = l.length := by
  rw [wro, List.length_append, List.length_append, List.length_take, List.length_drop]
  omega
/-- Is it there? -/
def minn (size at_ n : Int) : Bool := decide (0 ≤ at_) && (decide (0 ≤ n) && decide (at_ ≤ size - n))
/-- A byte. -/
def bt (l : List UInt8) (i : Int) : Nat := if i < 0 then 0 else (l.getD i.toNat 0).toNat
theorem bt_lt (l : List UInt8) (i : Int) : bt l i < 256 := by
  unfold bt
  split
  · omega
  · have := UInt8.toNat_lt (l.getD i.toNat 0); omega
/-- Four bytes. -/
def wd (l : List UInt8) (i : Int) : Nat := bt l i + bt l (i + 1) * 256 + bt l (i + 2) * 65536 + bt l (i + 3) * 16777216
theorem wd_lt (l : List UInt8) (i : Int) : wd l i < 4294967296 := by
  have := bt_lt l i
  have := bt_lt l (i + 1)
  have := bt_lt l (i + 2)
  have := bt_lt l (i + 3)
  unfold wd
  omega
theorem bt_far (l : List UInt8) (i : Int) (h : (l.length : Int) ≤ i) : bt l i = 0 := by
  unfold bt
  rw [if_neg (by omega), List.getD, List.getElem?_eq_none (by omega)]
  rfl
theorem wd_far (l : List UInt8) (i : Int) (h : (l.length : Int) ≤ i) : wd l i = 0 := by
  unfold wd
  rw [bt_far l i h, bt_far l (i + 1) (by omega), bt_far l (i + 2) (by omega), bt_far l (i + 3) (by omega)]
end Go.Proofs.YtpcepgecbdjdfaaDoor

/- The contracts of the program's memory: New, within, byteAt, Size, Set. -/
namespace Go.Proofs.YtpcepgecbdjdfaaDoor
open Go Go.RowKit

/-- ErrArg, ErrStride, ErrFile. -/
structure E3 (w : World) (es : List Addr) : Prop where
  arg : w.cell? ⟨0, 0, none⟩ = some (erv es 1)
  stride : w.cell? ⟨2, 0, none⟩ = some (erv es 8)
  file : w.cell? ⟨1, 0, none⟩ = some (erv es 9)

theorem E3.below {w w' : World} {es : List Addr} (h : E3 w es) (hb : Below w.heap.size w w') : E3 w' es :=
  ⟨(kp_of_below hb []).cell h.arg (by simp), (kp_of_below hb []).cell h.stride (by simp), (kp_of_below hb []).cell h.file (by simp)⟩

/-- The memories at p, their map at b, are s. -/
structure Mm (base : Nat) (w : World) (p b : Nat) (s : Int → Mo) : Prop where
  lop : base ≤ p
  lob : base ≤ b
  ne : p ≠ b
  var : w.heap[p]? = some (.cells #[.map (some b)] 85 (0, 0))
  own : ∃ D, w.ownsMap Tryd.prog 3 slR b 255 D ∧ Mep D s
  dom : Mdom s
  row : ∀ k q, s k = some q → base ≤ q.1 ∧ q.1 ≠ p ∧ q.1 ≠ b ∧ w.heap[q.1]? = some (.cells (bc q.2).toArray 5 (0, 0)) ∧ q.2.length ≤ 65536
  apart : ∀ k k' q q', s k = some q → s k' = some q' → q.1 = q'.1 → k = k'

theorem mown_kp {X : List Nat} {w w' : World} {b n : Nat} {D : DataW Unit} (h : w.ownsMap Tryd.prog 3 slR b n D) (hk : Kp X w w') (hX : b ∉ X) : w'.ownsMap Tryd.prog 3 slR b n D := by
  obtain ⟨es, clock, hb, F, hs, hD⟩ := h
  exact ⟨es, clock, hk.var hb hX, F, hs, hD⟩

theorem Mm.kept {base : Nat} {w w' : World} {p b : Nat} {s : Int → Mo} {X : List Nat} (h : Mm base w p b s) (hk : Kp X w w') (hp : p ∉ X) (hb : b ∉ X) (hr : ∀ k q, s k = some q → q.1 ∉ X) : Mm base w' p b s := by
  obtain ⟨D, h1, h2⟩ := h.own
  exact ⟨h.lop, h.lob, h.ne, hk.var h.var hp, ⟨D, mown_kp h1 hk hb, h2⟩, h.dom, fun k q e => by
    obtain ⟨r1, r2, r3, r4, r5⟩ := h.row k q e
    exact ⟨r1, r2, r3, hk.var r4 (hr k q e), r5⟩, h.apart⟩
theorem Mm.on {base : Nat} {w w' : World} {p b : Nat} {s : Int → Mo} (h : Mm base w p b s) (hb : Below w.heap.size w w') : Mm base w' p b s := h.kept (kp_of_below hb []) (by simp) (by simp) (fun _ _ _ => by simp)
theorem Mm.lt {base : Nat} {w : World} {p b : Nat} {s : Int → Mo} (h : Mm base w p b s) : p < w.heap.size ∧ b < w.heap.size := by
  obtain ⟨D, h1, _⟩ := h.own
  exact ⟨(Array.getElem?_eq_some_iff.1 h.var).1, h1.lt⟩
theorem Mm.rlt {base : Nat} {w : World} {p b : Nat} {s : Int → Mo} (h : Mm base w p b s) {k : Int} {q : Nat × List UInt8} (e : s k = some q) : q.1 < w.heap.size := (Array.getElem?_eq_some_iff.1 (h.row k q e).2.2.2.1).1
theorem Mm.low {base base' : Nat} {w : World} {p b : Nat} {s : Int → Mo} (h : Mm base w p b s) (hb : base' ≤ base) : Mm base' w p b s :=
  ⟨Nat.le_trans hb h.lop, Nat.le_trans hb h.lob, h.ne, h.var, h.own, h.dom, fun k q e => by
    obtain ⟨r1, r⟩ := h.row k q e
    exact ⟨Nat.le_trans hb r1, r⟩, h.apart⟩

theorem kInt (id : Int) (h : -9223372036854775808 ≤ id ∧ id ≤ 9223372036854775807) : keyOf Tryd.prog 3 (.int .i64 id) = some (.int .i64 id) :=
  Maps.keyOf_int_mk Tryd.underlying3 (by simp [Lit.wf, IntKind.min, IntKind.max, IntKind.signed, IntKind.bits]; omega)
theorem zSl (w : World) : (zeroValue 24).run Tryd.prog w = .ok (.slice none 0 0) w := by kernel_rfl

section
variable {H : Type} {P : Program} (w : World) {ops : Array Oper} {rest : List Oper} {o : Oper} {a : Act} {Q : Exit → Act → World → Prop}
/-- 'm[k]', at whatever values. -/
theorem wpList_lookup_own (hg : o.guard = none) (m x : Operand) (t : TypeId) (hop : o.op = Op.lookup t m x false)
    (k e : TypeId) (K : Maps.Keyed P k) (ht : P.underlying t = some (.map k e)) (R : Value → Option (DataW H × List MemPlace)) {z : Value} (hz : (zeroValue e).run P w = .ok z w) (zd : DataW H) (zp : List MemPlace) (hzd : R z = some (zd, zp)) (b n : Nat) (D : DataW H)
    (hm : a.eval m = .map (some b)) (hown : w.ownsMap P k R b n D) (key : Value) (kl : Lit) (hx : a.eval x = key) (hkey : keyOf P k key = some kl)
    (hK : ∀ v ps, R v = some (D.atKey kl zd, ps) → wpList P ops Q rest (a.put o.dst v) w) :
    wpList P ops Q (o :: rest) a w := by
  refine wpList_plain hg fun K' hK' => ?_
  obtain ⟨v, ps, hrun, hv⟩ := hown.lookup K ht hz hzd hkey
  unfold Oper.wp
  simp [execOp, hop, hm, hx, hrun, Result.andThen]
  exact hK' _ _ (hK v ps hv)
end

set_option maxRecDepth 100000 in
theorem mnew_any (w : World) : Calls Tryd.prog 10 #[] w fun e w' => e = .returned (.pointer (some ⟨w.heap.size + 1, 0, none⟩)) ∧ Below w.heap.size w w' ∧ ∀ base, base ≤ w.heap.size → Mm base w' (w.heap.size + 1) w.heap.size (fun _ => none) := by
  have H0 := hid (World.ownsMap_made w Tryd.prog 3 slR)
  have hmm := @run_makeMap Tryd.prog
  go_enter Tryd.func10, Tryd.ntmps10
  go_wp2
  go_ret
  have hb : Below w.heap.size w (w.alloc (.map #[] 0)) := (Below.refl w.heap.size w).alloc (Nat.le_refl _) _
  refine ⟨by simp, hb.alloc hb.size _, fun base hbase => ⟨by omega, hbase, by omega, ?_, ⟨_, (mtight H0.out Tryd.underlying3 mep_empty (fun k h => by cases h)).alloc _, mep_empty⟩, (fun k h => by cases h), (fun k q h => by cases h), (fun k k' q q' h => by cases h)⟩⟩
  have := heap_alloc_new (w.alloc (.map #[] 0)) (.cells #[.map (some w.heap.size)] 85 (0, 0))
  simpa using this

theorem mwithin_any (size at_ n : Int) (w : World) (h0 : 0 ≤ size ∧ size ≤ 65536) (_ha : -9223372036854775808 ≤ at_ ∧ at_ ≤ 9223372036854775807) (hn : -9223372036854775808 ≤ n ∧ n ≤ 9223372036854775807) :
    Calls Tryd.prog 32 #[.int .i64 size, .int .i64 at_, .int .i64 n] w fun e w' => e = .returned (.bool (minn size at_ n)) ∧ w' = w := by
  by_cases h1 : 0 ≤ at_
  · have e1 : decide (0 ≤ at_) = true := decide_eq_true h1
    by_cases h2 : 0 ≤ n
    · have e2 : decide (0 ≤ n) = true := decide_eq_true h2
      have hr : -9223372036854775808 ≤ size - n ∧ size - n ≤ 9223372036854775807 := by omega
      have HI : Hid (minn size at_ n = decide (at_ ≤ size - n)) := by rw [Hid, minn, e1, e2]; rfl
      go_enter Tryd.func32, Tryd.ntmps32
      go_wp2
      go_ret
      rw [HI.out]
      exact ⟨rfl, rfl⟩
    · have e2 : decide (0 ≤ n) = false := decide_eq_false h2
      have HI : Hid (minn size at_ n = false) := by rw [Hid, minn, e1, e2]; rfl
      go_enter Tryd.func32, Tryd.ntmps32
      go_wp2
      go_ret
      rw [HI.out]
      exact ⟨rfl, rfl⟩
  · have e1 : decide (0 ≤ at_) = false := decide_eq_false h1
    have HI : Hid (minn size at_ n = false) := by rw [Hid, minn, e1]; rfl
    go_enter Tryd.func32, Tryd.ntmps32
    go_wp2
    go_ret
    rw [HI.out]
    exact ⟨rfl, rfl⟩

set_option maxRecDepth 100000 in
theorem byteAt_any (w : World) (a : Option Addr) (n c : Nat) (l : List UInt8) (hr : Rd w a n c l) (hn : n ≤ 65536) (i : Int) (_hi : -9223372036854775808 ≤ i ∧ i ≤ 9223372036854775807) :
    Calls Tryd.prog 59 #[.slice a n c, .int .i64 i] w fun e w' => e = .returned (.int .u8 (bt l i : Nat)) ∧ w' = w := by
  have hl := hr.len
  by_cases h1 : i < 0
  · have e1 : decide (i < 0) = true := decide_eq_true h1
    have HI : Hid (bt l i = 0) := by rw [Hid, bt, if_pos h1]
    go_enter Tryd.func59, Tryd.ntmps59
    go_wp2
    go_ret
    rw [HI.out]
    exact ⟨rfl, rfl⟩
  · have e1 : decide (i < 0) = false := decide_eq_false h1
    by_cases h2 : (n : Int) ≤ i
    · have e2 : decide ((n : Int) ≤ i) = true := decide_eq_true h2
      have HI : Hid (bt l i = 0) := bt_far l i (by omega)
      go_enter Tryd.func59, Tryd.ntmps59
      go_wp2
      go_ret
      rw [HI.out]
      exact ⟨rfl, rfl⟩
    · have e2 : decide ((n : Int) ≤ i) = false := decide_eq_false h2
      obtain ⟨k, rfl⟩ : ∃ k : Nat, i = k := ⟨i.toNat, by omega⟩
      have hk : k < n := by omega
      obtain ⟨b, off, rfl, hb, hc⟩ := hr.plain (by omega)
      have c0 := hc k (by omega)
      have hle := hr.le
      have HI : Hid (bt l (k : Int) = l[k].toNat) := by
        rw [Hid, bt, if_neg h1, show ((k : Int)).toNat = k by omega, List.getD, List.getElem?_eq_getElem (by omega)]
        rfl
      generalize l[k].toNat = z at *
      clear hc hr
      go_enter Tryd.func59, Tryd.ntmps59
      go_wp2
      go_ret
      rw [HI.out]
      exact ⟨rfl, rfl⟩

theorem slv_shape (q : Mo) : ∃ ao m, slv q = .slice ao m m ∧ m = (by_ q).length := by
  cases q with
  | none => exact ⟨none, 0, rfl, rfl⟩
  | some q => exact ⟨_, _, rfl, rfl⟩

/-- A memory's bytes as a slice. -/
theorem Mm.rd {base : Nat} {w : World} {p b : Nat} {s : Int → Mo} (h : Mm base w p b s) (k : Int) : ∃ ao m, slv (s k) = .slice ao m m ∧ Rd w ao m m (by_ (s k)) ∧ m ≤ 65536 := by
  cases e : s k with
  | none => exact ⟨none, 0, rfl, Rd.nil w, by omega⟩
  | some q =>
    obtain ⟨r1, r2, r3, r4, r5⟩ := h.row k q e
    refine ⟨_, _, rfl, ⟨rfl, Nat.le_refl _, by simp only [maxLen]; omega, (fun h => by cases h), fun x hx j u hu => ?_⟩, r5⟩
    cases hx
    rw [Go.WideShapes.add_plain, Lib.cell_of_heap r4, Nat.zero_add]
    have hu' : (bc q.2)[j]? = some u := hu
    simpa using hu'

def szI (q : Mo) : Int := match q with
  | none => -1
  | some q => q.2.length

end Go.Proofs.YtpcepgecbdjdfaaDoor

/- The contracts of the program's memory: Set, Write, Read. -/
namespace Go.Proofs.YtpcepgecbdjdfaaDoor
open Go Go.RowKit

theorem infoU8 : (Tryd.prog.info? 5).map (fun i => (i.zero, i.size, i.bytes)) = some (some (.int .u8 0), 1, 1) := by kernel_rfl
theorem info_parts {e : TypeId} {z : Value} {sz by_ : Nat} (h : (Tryd.prog.info? e).map (fun i => (i.zero, i.size, i.bytes)) = some (some z, sz, by_)) : ∃ i, Tryd.prog.info? e = some i ∧ i.zero = some z ∧ i.size = sz ∧ i.bytes = by_ := by
  obtain ⟨i, h1, h2⟩ := Option.map_eq_some_iff.1 h
  simp only [Prod.mk.injEq] at h2
  exact ⟨i, h1, h2.1, h2.2.1, h2.2.2⟩
theorem sizeU8 : (Tryd.prog.info? 5).map (·.size) = some 1 := by
  obtain ⟨i, hi, _, h1, _⟩ := info_parts infoU8
  rw [hi]
  exact congrArg some h1

theorem below_setRow {B : Nat} {w u : World} (h : Below B w u) {g : Nat} (hg : B ≤ g) (cur : Array Value) : Below B w (u.setRow g cur) :=
  ⟨h.os, h.tape, h.output, by simpa using h.size, fun k hk => by rw [setRow_other u g k cur (by omega)]; exact h.block k hk⟩
theorem kp_setRow (w : World) (g : Nat) (cur : Array Value) : Kp [g] w (w.setRow g cur) :=
  ⟨rfl, rfl, rfl, by simp, fun k _ hn => setRow_other w g k cur (fun e => hn (by simp [e]))⟩

/-- 'make([]byte, n)': n bytes 0, in a block of its own. -/
theorem make_any (w : World) (n : Nat) (hn : n ≤ 65537) : ∃ w1, (Instr.makeSlice 24 (.int .i64 (n : Int)) (.int .i64 (n : Int))).run Tryd.prog w = .ok (.slice (some ⟨w.heap.size, 0, none⟩) n n) w1 ∧ Below w.heap.size w w1 ∧ w1.heap[w.heap.size]? = some (.cells (bc (List.replicate n 0)).toArray 5 (0, 0)) := by
  obtain ⟨i0, hi, hz0, hz1, hz2⟩ := info_parts infoU8
  obtain ⟨w1, hmk, ho1, hg1⟩ := run_make_full (P := Tryd.prog) w w.heap.size 24 5 i0 (.int .u8 0) 1 Tryd.underlying24 hi hz0 hz1 .i64 .i64 n (by rw [hz2]; omega) (by simp only [maxLen]; omega) (Nat.le_refl _)
  refine ⟨w1, hmk, (Below.refl _ _).grown hg1 (Nat.le_refl _) (fun k hk => by cases hk), ?_⟩
  rcases ho1.2 with ⟨h, _⟩ | ⟨g', cap', cur, hv, _, hg, _, _, hs, ht⟩
  · cases h
  · cases hv
    rw [hg]
    have e : cur.toList = (madeCells (Value.int .u8 0).cells (n * 1)).toList := by
      rw [← ht, List.take_of_length_le]
      rw [Array.length_toList, hs]
      exact Nat.le_refl _
    have e2 : cur = (bc (List.replicate n 0)).toArray := by
      apply Array.ext'
      rw [e]
      simp only [madeCells, bc, Value.cells]
      apply List.ext_getElem
      · simp
      · intro j h1 h2
        simp [Nat.mod_one]
    rw [e2]

/-- 'copy' of bytes into a row. -/
theorem copy_row (u : World) (g o dl dc : Nat) (l : List UInt8) (hg : u.heap[g]? = some (.cells (bc l).toArray 5 (0, 0))) (a : Option Addr) (n c : Nat) (b : List UInt8) (hr : Rd u a n c b) (hl : o + dl ≤ l.length) :
    ∃ U m, (∀ ty : TypeId, (Builtin.copy_ #[24, 24] ty #[.slice (some ⟨g, o, none⟩) dl dc, .slice a n c]).run Tryd.prog u = .ok (goInt m) U) ∧ U.heap[g]? = some (.cells (bc (wro l o (b.take dl))).toArray 5 (0, 0)) ∧ Kp [g] u U ∧ m = min n dl := by
  have hlen := hr.len
  cases a with
  | none =>
    have h0 := hr.hnil rfl
    have h1 := hr.le
    obtain rfl : n = 0 := by omega
    subst h0
    obtain rfl : b = [] := List.eq_nil_of_length_eq_zero hlen
    refine ⟨u, 0, fun ty => run_copy_nil (P := Tryd.prog) u _ _ _ 5 _ _ _ Tryd.underlying24 (by rw [sizeU8]; rfl), ?_, Kp.refl _ _, by omega⟩
    rw [hg]
    simp [wro]
  | some x =>
    have hcs : (bc (b.take dl)).length = Nat.min n dl := by rw [bc_length, List.length_take, hlen]; exact Nat.min_comm _ _
    have hrun : ∀ ty, (Builtin.copy_ #[24, 24] ty #[.slice (some ⟨g, o, none⟩) dl dc, .slice (some x) n c]).run Tryd.prog u = _ := fun ty => run_copy_row (P := Tryd.prog) u 24 24 ty 5 g o dl dc x n c (bc l).toArray 5 (bc (b.take dl)) Tryd.underlying24 sizeU8 hg hcs (fun j v hj => hr.cells x rfl j v (by
      have hj' : j < (bc (b.take dl)).length := by
        rcases Nat.lt_or_ge j (bc (b.take dl)).length with h' | h'
        · exact h'
        · rw [List.getElem?_eq_none h'] at hj; cases hj
      rw [bc_length, List.length_take] at hj'
      rw [bc, List.getElem?_map, List.getElem?_take_of_lt (by omega)] at hj
      rw [bc, List.getElem?_map]
      exact hj)) (by rw [List.size_toArray, hcs, bc_length]; have h2 : Nat.min n dl ≤ dl := Nat.min_le_right n dl; exact Nat.le_trans (Nat.add_le_add_left h2 o) hl) (bc_one _)
    refine ⟨_, _, hrun, ?_, kp_setRow _ _ _, ?_⟩
    · rw [setRow_heap u g (bc l).toArray _ 5 _ hg]
      have e : (bc l).toArray.toList.take o ++ bc (b.take dl) ++ (bc l).toArray.toList.drop (o + (bc (b.take dl)).length) = bc (wro l o (b.take dl)) := by
        rw [wro, bc_append, bc_append, bc_length]
        simp [bc]
      rw [e]
    · rw [hcs]

def setE (k n : Int) : Nat := if k < 1 ∨ 255 < k ∨ n < 0 ∨ 65536 < n then 1 else 0

/-- Set's answer. -/
def Setted (base : Nat) (w : World) (es : List Addr) (p b : Nat) (s : Int → Mo) (k n : Int) (e : Ending) (w' : World) : Prop :=
  e = .returned (erv es (setE k n)) ∧ Mm base w' p b (if setE k n = 0 then mupd s k (some (w.heap.size, rsz (by_ (s k)) n.toNat)) else s) ∧ Kp [b] w w'

theorem setted_no {base : Nat} {w w' : World} {es : List Addr} {p b : Nat} {s : Int → Mo} {k n : Int} (hT : Mm base w p b s) (hb : Below w.heap.size w w') (hk : setE k n = 1) : Setted base w es p b s k n (.returned (erv es 1)) w' := by
  refine ⟨by rw [hk], ?_, kp_of_below hb _⟩
  rw [hk, if_neg (by omega)]
  exact hT.on hb

set_option maxRecDepth 100000 in
theorem mset_arg (base : Nat) (w : World) (es : List Addr) (hE : E3 w es) (p b : Nat) (s : Int → Mo) (hT : Mm base w p b s) (k n : Int) (hk : k < 1 ∨ 255 < k ∨ n < 0 ∨ 65536 < n) :
    Calls Tryd.prog 11 #[.pointer (some ⟨p, 0, none⟩), .int .i64 k, .int .i64 n] w fun e w' => Setted base w es p b s k n e w' := by
  have hc := hE.arg
  have hl := World.block_lt_of_cell? w _ hc
  have HT := hid (setted_no (k := k) (n := n) (es := es) hT (Below.refl _ _) (by rw [setE, if_pos hk]))
  clear hT hE
  by_cases h1 : k < 1
  · have e1 : decide (k < 1) = true := decide_eq_true h1
    go_enter Tryd.func11, Tryd.ntmps11
    go_wp2
    go_ret
    exact HT.out
  · have e1 : decide (k < 1) = false := decide_eq_false h1
    by_cases h2 : 255 < k
    · have e2 : decide (255 < k) = true := decide_eq_true h2
      go_enter Tryd.func11, Tryd.ntmps11
      go_wp2
      go_ret
      exact HT.out
    · have e2 : decide (255 < k) = false := decide_eq_false h2
      by_cases h3 : n < 0
      · have e3 : decide (n < 0) = true := decide_eq_true h3
        go_enter Tryd.func11, Tryd.ntmps11
        go_wp2
        go_ret
        exact HT.out
      · have e3 : decide (n < 0) = false := decide_eq_false h3
        have e4 : decide (65536 < n) = true := decide_eq_true (by omega)
        go_enter Tryd.func11, Tryd.ntmps11
        go_wp2
        go_ret
        exact HT.out

/-- What is laid into the map. -/
theorem Mm.set {base : Nat} {w U u' : World} {p b : Nat} {s : Int → Mo} (hT : Mm base w p b s) (hbase : base ≤ w.heap.size) {k : Int} (hk : 1 ≤ k ∧ k ≤ 255) {L : List UInt8} (hL : L.length ≤ 65536) (hU : Below w.heap.size w U) (hg : U.heap[w.heap.size]? = some (.cells (bc L).toArray 5 (0, 0))) {D : DataW Unit} {n : Nat}
    (hm : Maps.IsMap D) (hR : Mep D s) (ho : u'.ownsMap Tryd.prog 3 slR b n (D.put (.int .i64 k) (dtm (some (w.heap.size, L))))) (ht : U.mapTurned u' b) : Mm base u' p b (mupd s k (some (w.heap.size, L))) ∧ Kp [b] w u' := by
  have hlt := hT.lt
  have hk1 := kp_turned ht
  have hR' := hR.put hm k (w.heap.size, L)
  have hd := hT.dom.upd hk (some (w.heap.size, L))
  refine ⟨⟨hT.lop, hT.lob, hT.ne, hk1.var ((kp_of_below hU []).var hT.var (by simp)) (by simpa using hT.ne), ⟨_, mtight ho Tryd.underlying3 hR' hd, hR'⟩, hd, fun x q e => ?_, fun x x' q q' e e' h => ?_⟩, (kp_of_below hU [b]).trans hk1 (fun _ h _ => h)⟩
  · by_cases hx : x = k
    · rw [hx, mupd_same] at e
      cases e
      exact ⟨hbase, by simp only; omega, by simp only; omega, hk1.var hg (by simp only [List.mem_cons, List.not_mem_nil, or_false]; omega), hL⟩
    · rw [mupd_other s hx] at e
      obtain ⟨r1, r2, r3, r4, r5⟩ := hT.row x q e
      exact ⟨r1, r2, r3, hk1.var ((kp_of_below hU []).var r4 (by simp)) (by simpa using r3), r5⟩
  · by_cases hx : x = k
    · by_cases hx' : x' = k
      · rw [hx, hx']
      · rw [hx, mupd_same] at e
        rw [mupd_other s hx'] at e'
        cases e
        have := hT.rlt e'
        simp only at h
        omega
    · by_cases hx' : x' = k
      · rw [hx', mupd_same] at e'
        rw [mupd_other s hx] at e
        cases e'
        have := hT.rlt e
        simp only at h
        omega
      · rw [mupd_other s hx] at e
        rw [mupd_other s hx'] at e'
        exact hT.apart x x' q q' e e' h

set_option maxRecDepth 100000 in
set_option maxHeartbeats 1000000 in
theorem mset_ok (base : Nat) (w : World) (es : List Addr) (p b : Nat) (s : Int → Mo) (hT : Mm base w p b s) (hbase : base ≤ w.heap.size) (k : Int) (n : Nat) (hk : ¬ (k < 1 ∨ 255 < k ∨ (n : Int) < 0 ∨ 65536 < (n : Int))) :
    Calls Tryd.prog 11 #[.pointer (some ⟨p, 0, none⟩), .int .i64 k, .int .i64 n] w fun e w' => Setted base w es p b s k n e w' := by
  have hs : setE k n = 0 := by rw [setE, if_neg hk]
  obtain ⟨w1, hmk, hb1, hg1⟩ := make_any w n (by omega)
  have hT1 := hT.on hb1
  obtain ⟨D, ho, hR⟩ := hT1.own
  have HO := hid ho
  have HA := hid (hR k)
  have HZ := hid (zSl w1)
  have HK := hid (kInt k (by omega))
  have c0 : w1.cell? ⟨p, 0, none⟩ = some (.map (some b)) := by rw [Lib.cell_of_heap hT1.var]; rfl
  obtain ⟨ao, m, hv, hrd, hm⟩ := hT1.rd k
  obtain ⟨U, mm, hcp, hU, hkU, _⟩ := copy_row w1 w.heap.size 0 n n (List.replicate n 0) hg1 ao m m _ hrd (by simp)
  have hbU : Below w.heap.size w U := hb1.trans (hkU.below hb1.size (fun k hk => by simp only [List.mem_cons, List.not_mem_nil, or_false] at hk; omega))
  have eU : wro (List.replicate n 0) 0 ((by_ (s k)).take n) = rsz (by_ (s k)) n := by
    rw [wro, rsz, List.take_zero, List.nil_append, Nat.zero_add, List.length_take, List.drop_replicate]
    congr 2
    omega
  rw [eU] at hU
  have HF : Hid (∀ u', u'.ownsMap Tryd.prog 3 slR b (255 + 1) (D.put (.int .i64 k) (dtm (some (w.heap.size, rsz (by_ (s k)) n)))) → U.mapTurned u' b → Setted base w es p b s k n (.returned .nilIface) u') := fun u' ho' ht => by
    obtain ⟨h1, h2⟩ := hT.set hbase (by omega) (by rw [rsz_length]; omega) hbU hU ho.isMap hR ho' ht
    exact ⟨by rw [hs]; rfl, by rw [hs, if_pos rfl]; exact h1, h2⟩
  have HO2 := hid (mown_kp ho hkU (by have := hT.lt; simp only [List.mem_cons, List.not_mem_nil, or_false]; omega))
  have HS : Hid (slR (.slice (some ⟨w.heap.size, 0, none⟩) n n) = some (dtm (some (w.heap.size, rsz (by_ (s k)) n)), [])) := by
    have := slR_mk (some (w.heap.size, rsz (by_ (s k)) n))
    rw [slv] at this
    simp only [rsz_length] at this
    exact this
  have cU : U.cell? ⟨p, 0, none⟩ = some (.map (some b)) := by rw [Lib.cell_of_heap (hT.on hbU).var]; rfl
  have e1 : decide (k < 1) = false := decide_eq_false (by omega)
  have e2 : decide (255 < k) = false := decide_eq_false (by omega)
  have e3 : decide ((n : Int) < 0) = false := decide_eq_false (by omega)
  have e4 : decide (65536 < (n : Int)) = false := decide_eq_false (by omega)
  have HV := hid hv
  clear hT hT1 ho hR hrd hv hU hkU hbU hg1 hb1 hk hs eU hm
  go_enter Tryd.func11, Tryd.ntmps11
  go_wp2_with (first | (at_lookup; refine wpList_lookup_own _ rfl (.tmp 29) (.tmp 30) 83 rfl 3 24 (Maps.int_keyed Tryd.underlying3) Tryd.underlying83 slR HZ.out _ _ (slR_mk none) b 255 D rfl HO.out _ _ rfl HK.out ?_; intro v ps hv; rw [show dtm none = DataW.nil from rfl, HA.out.2] at hv; obtain rfl := slR_inv hv; rw [HV.out]; clear hv) | (refine wpList_mapUpdate_in _ rfl (.tmp 36) (.tmp 37) (.tmp 38) 83 rfl 3 24 (Maps.int_keyed Tryd.underlying3) Tryd.underlying83 slR b 255 D rfl HO2.out (by decide) _ _ _ rfl rfl HK.out _ _ HS.out ?_; intro w2 o2 t2; have HA := hid (HF.out _ o2 t2); clear o2 t2))
  go_ret
  exact HA.out
end Go.Proofs.YtpcepgecbdjdfaaDoor

/- The contracts of the program's memory: Set, Write, whatever the arguments. -/
namespace Go.Proofs.YtpcepgecbdjdfaaDoor
open Go Go.RowKit

theorem mset_any (base : Nat) (w : World) (es : List Addr) (hE : E3 w es) (p b : Nat) (s : Int → Mo) (hT : Mm base w p b s) (hbase : base ≤ w.heap.size) (k n : Int) :
    Calls Tryd.prog 11 #[.pointer (some ⟨p, 0, none⟩), .int .i64 k, .int .i64 n] w fun e w' => Setted base w es p b s k n e w' := by
  by_cases hk : k < 1 ∨ 255 < k ∨ n < 0 ∨ 65536 < n
  · exact mset_arg base w es hE p b s hT k n hk
  · obtain ⟨m, rfl⟩ : ∃ m : Nat, n = m := ⟨n.toNat, by omega⟩
    exact mset_ok base w es p b s hT hbase k m hk

/-- The block of a memory. -/
def mob : Mo → List Nat
  | none => []
  | some q => [q.1]

def wrE (q : Mo) (at_ n : Int) : Nat := match q with
  | none => 9
  | some q => if minn q.2.length at_ n = true then 0 else 8

def wrS (s : Int → Mo) (k at_ : Int) (b : List UInt8) : Int → Mo := match s k with
  | none => s
  | some q => if minn q.2.length at_ b.length = true then mupd s k (some (q.1, wro q.2 at_.toNat b)) else s

/-- Write's answer. -/
def Written (base : Nat) (w : World) (es : List Addr) (p b : Nat) (s : Int → Mo) (k at_ : Int) (l : List UInt8) (e : Ending) (w' : World) : Prop :=
  e = .returned (erv es (wrE (s k) at_ l.length)) ∧ Mm base w' p b (wrS s k at_ l) ∧ Kp (mob (s k)) w w'

theorem Mm.wrote {base : Nat} {w U : World} {p b : Nat} {s : Int → Mo} (hT : Mm base w p b s) {k : Int} {q : Nat × List UInt8} (hq : s k = some q) {L : List UInt8} (hL : L.length = q.2.length) (hg : U.heap[q.1]? = some (.cells (bc L).toArray 5 (0, 0))) (hk : Kp [q.1] w U) : Mm base U p b (mupd s k (some (q.1, L))) := by
  obtain ⟨r1, r2, r3, r4, r5⟩ := hT.row k q hq
  obtain ⟨D, ho, hR⟩ := hT.own
  refine ⟨hT.lop, hT.lob, hT.ne, hk.var hT.var (by simpa using Ne.symm r2), ⟨D, mown_kp ho hk (by simpa using Ne.symm r3), fun x => ?_⟩, hT.dom.upd (hT.dom k (by rw [hq]; rfl)) _, fun x y e => ?_, fun x x' y y' e e' h => ?_⟩
  · by_cases hx : x = k
    · rw [hx, mupd_same]
      have := hR k
      rw [hq] at this
      refine ⟨this.1, this.2.trans ?_⟩
      simp only [dtm, hL]
    · rw [mupd_other s hx]
      exact hR x
  · by_cases hx : x = k
    · rw [hx, mupd_same] at e
      cases e
      exact ⟨r1, r2, r3, hg, by simp only [hL]; exact r5⟩
    · rw [mupd_other s hx] at e
      obtain ⟨t1, t2, t3, t4, t5⟩ := hT.row x y e
      exact ⟨t1, t2, t3, hk.var t4 (fun hm => hx (hT.apart x k y q e hq (by simpa using hm))), t5⟩
  · by_cases hx : x = k
    · by_cases hx' : x' = k
      · rw [hx, hx']
      · rw [hx, mupd_same] at e
        rw [mupd_other s hx'] at e'
        cases e
        rw [hx]
        exact hT.apart k x' q y' hq e' h
    · by_cases hx' : x' = k
      · rw [hx', mupd_same] at e'
        rw [mupd_other s hx] at e
        cases e'
        rw [hx']
        exact hT.apart x k y q e hq h
      · rw [mupd_other s hx] at e
        rw [mupd_other s hx'] at e'
        exact hT.apart x x' y y' e e' h

theorem minn_true {size at_ n : Int} (h : minn size at_ n = true) : 0 ≤ at_ ∧ 0 ≤ n ∧ at_ ≤ size - n := by simpa [minn] using h

theorem wro_nil (l : List UInt8) (k : Nat) : wro l k [] = l := by simp [wro]

set_option maxRecDepth 100000 in
set_option maxHeartbeats 1000000 in
theorem mwrite_ok (base : Nat) (w : World) (es : List Addr) (p b : Nat) (s : Int → Mo) (hT : Mm base w p b s) (k : Int) (hi : -9223372036854775808 ≤ k ∧ k ≤ 9223372036854775807) (j : Nat) (a : Option Addr) (n c : Nat) (l : List UInt8) (hr : Rd w a n c l) (hn : n ≤ 65536) (g : Nat) (L : List UInt8) (hq : s k = some (g, L)) (hin : minn L.length j n = true) :
    Calls Tryd.prog 12 #[.pointer (some ⟨p, 0, none⟩), .int .i64 k, .int .i64 j, .slice a n c] w fun e w' => Written base w es p b s k j l e w' := by
  obtain ⟨D, ho, hR⟩ := hT.own
  have HO := hid ho
  have HA := hid (hR k)
  have HZ := hid (zSl w)
  have HK := hid (kInt k hi)
  have c0 : w.cell? ⟨p, 0, none⟩ = some (.map (some b)) := by rw [Lib.cell_of_heap hT.var]; rfl
  obtain ⟨r1, r2, r3, r4, r5⟩ := hT.row k _ hq
  simp only at r4 r5
  have h3 := minn_true hin
  have hlen := hr.len
  have HW := hid (mwithin_any L.length j n w (by omega) (by omega) (by omega))
  rw [hin] at HW
  obtain ⟨U, mm, hcp, hU, hkU, _⟩ := copy_row w g j (L.length - j) (L.length - j) L r4 a n c l hr (by omega)
  have hcp2 : L.length - j = 0 → ∀ ty : TypeId, (Builtin.copy_ #[24, 24] ty #[.slice (some ⟨g, 0, none⟩) 0 0, .slice a n c]).run Tryd.prog w = .ok (goInt mm) U := fun h0 ty => by
    have q1 := hcp ty
    rw [h0, run_copy_none (P := Tryd.prog) w 24 24 ty 5 _ _ _ _ _ _ Tryd.underlying24 sizeU8 (Nat.min_zero _)] at q1
    rw [run_copy_none (P := Tryd.prog) w 24 24 ty 5 _ _ _ _ _ _ Tryd.underlying24 sizeU8 (Nat.min_zero _)]
    exact q1
  rw [List.take_of_length_le (by omega)] at hU
  have HF : Hid (Written base w es p b s k j l (.returned .nilIface) U) := by
    refine ⟨?_, ?_, ?_⟩
    · rw [hq, wrE, hlen, hin]; rfl
    · have h := hT.wrote hq (wro_length (by show j + l.length ≤ L.length; omega)) hU hkU
      rw [wrS, hq]
      simp only [hlen, hin, if_true, Int.toNat_natCast]
      exact h
    · rw [hq]; exact hkU
  have HV : Hid (slv (s k) = .slice (some ⟨g, 0, none⟩) L.length L.length) := by rw [hq]; rfl
  have HH : Hid (Maps.has D (.int .i64 k) = true) := by rw [Hid, (hR k).1, hq]; rfl
  generalize L.length = N at *
  clear hT ho hR hq hin hr hU hkU r4
  go_enter Tryd.func12, Tryd.ntmps12
  go_wp2_with (at_lookup; refine wpList_lookup_own_ok _ rfl (.tmp 15) (.tmp 16) 83 rfl 3 24 (Maps.int_keyed Tryd.underlying3) Tryd.underlying83 slR HZ.out _ _ (slR_mk none) b 255 D rfl HO.out _ _ rfl HK.out ?_; intro v ps hv; rw [show dtm none = DataW.nil from rfl, HA.out.2] at hv; obtain rfl := slR_inv hv; rw [HH.out, HV.out]; clear hv)
  refine HW.out.mono ?_
  rintro e w1 ⟨rfl, rfl⟩
  go_wp2
  all_goals
    go_ret
    exact HF.out

set_option maxRecDepth 100000 in
theorem mwrite_any (base : Nat) (w : World) (es : List Addr) (hE : E3 w es) (p b : Nat) (s : Int → Mo) (hT : Mm base w p b s) (k : Int) (hi : -9223372036854775808 ≤ k ∧ k ≤ 9223372036854775807) (j : Int) (hj : -9223372036854775808 ≤ j ∧ j ≤ 9223372036854775807) (a : Option Addr) (n c : Nat) (l : List UInt8) (hr : Rd w a n c l) (hn : n ≤ 65536) :
    Calls Tryd.prog 12 #[.pointer (some ⟨p, 0, none⟩), .int .i64 k, .int .i64 j, .slice a n c] w fun e w' => Written base w es p b s k j l e w' := by
  have hlen := hr.len
  cases hq : s k with
  | none =>
    obtain ⟨D, ho, hR⟩ := hT.own
    have HO := hid ho
    have HA := hid (hR k)
    have HZ := hid (zSl w)
    have HK := hid (kInt k hi)
    have c0 : w.cell? ⟨p, 0, none⟩ = some (.map (some b)) := by rw [Lib.cell_of_heap hT.var]; rfl
    have hc := hE.file
    have hl := World.block_lt_of_cell? w _ hc
    have HF : Hid (Written base w es p b s k j l (.returned (erv es 9)) w) := by
      refine ⟨by rw [hq]; rfl, ?_, Kp.refl _ _⟩
      rw [wrS, hq]
      exact hT
    have HV : Hid (slv (s k) = .slice none 0 0) := by rw [hq]; rfl
    have HH : Hid (Maps.has D (.int .i64 k) = false) := by rw [Hid, (hR k).1, hq]; rfl
    clear hT ho hR hq hr hE
    go_enter Tryd.func12, Tryd.ntmps12
    go_wp2_with (at_lookup; refine wpList_lookup_own_ok _ rfl (.tmp 15) (.tmp 16) 83 rfl 3 24 (Maps.int_keyed Tryd.underlying3) Tryd.underlying83 slR HZ.out _ _ (slR_mk none) b 255 D rfl HO.out _ _ rfl HK.out ?_; intro v ps hv; rw [show dtm none = DataW.nil from rfl, HA.out.2] at hv; obtain rfl := slR_inv hv; rw [HH.out, HV.out]; clear hv)
    go_ret
    exact HF.out
  | some q =>
    obtain ⟨g, L⟩ := q
    by_cases hin : minn L.length j n = true
    · obtain ⟨m, rfl⟩ : ∃ m : Nat, j = m := ⟨j.toNat, by have := minn_true hin; omega⟩
      exact mwrite_ok base w es p b s hT k hi m a n c l hr hn g L hq hin
    · obtain ⟨D, ho, hR⟩ := hT.own
      have HO := hid ho
      have HA := hid (hR k)
      have HZ := hid (zSl w)
      have HK := hid (kInt k hi)
      have c0 : w.cell? ⟨p, 0, none⟩ = some (.map (some b)) := by rw [Lib.cell_of_heap hT.var]; rfl
      have hc := hE.stride
      have hl := World.block_lt_of_cell? w _ hc
      obtain ⟨r1, r2, r3, r4, r5⟩ := hT.row k _ hq
      simp only at r5
      have hin := Bool.eq_false_iff.2 hin
      have HW := hid (mwithin_any L.length j n w (by omega) (by omega) (by omega))
      rw [hin] at HW
      have HF : Hid (Written base w es p b s k j l (.returned (erv es 8)) w) := by
        refine ⟨by rw [hq, wrE, hlen, hin]; rfl, ?_, Kp.refl _ _⟩
        rw [wrS, hq]
        simp only [hlen, hin]
        exact hT
      have HV : Hid (slv (s k) = .slice (some ⟨g, 0, none⟩) L.length L.length) := by rw [hq]; rfl
      have HH : Hid (Maps.has D (.int .i64 k) = true) := by rw [Hid, (hR k).1, hq]; rfl
      generalize L.length = N at *
      clear hT ho hR hq hin hr r4 hE
      go_enter Tryd.func12, Tryd.ntmps12
      go_wp2_with (at_lookup; refine wpList_lookup_own_ok _ rfl (.tmp 15) (.tmp 16) 83 rfl 3 24 (Maps.int_keyed Tryd.underlying3) Tryd.underlying83 slR HZ.out _ _ (slR_mk none) b 255 D rfl HO.out _ _ rfl HK.out ?_; intro v ps hv; rw [show dtm none = DataW.nil from rfl, HA.out.2] at hv; obtain rfl := slR_inv hv; rw [HH.out, HV.out]; clear hv)
      refine HW.out.mono ?_
      rintro e w1 ⟨rfl, rfl⟩
      go_wp2
      go_ret
      exact HF.out
end Go.Proofs.YtpcepgecbdjdfaaDoor

/- The contracts of the program's memory: Read, Word. -/
namespace Go.Proofs.YtpcepgecbdjdfaaDoor
open Go Go.RowKit

/-- May it be read? -/
def rdOk (q : Mo) (at_ n : Int) : Bool := match q with
  | none => false
  | some q => minn q.2.length at_ n

/-- Read's answer. -/
def ReadIs (w : World) (q : Mo) (at_ n : Int) (e : Ending) (w' : World) : Prop :=
  ∃ v, e = .returned (.tuple #[v, .bool (rdOk q at_ n)]) ∧ Below w.heap.size w w' ∧
    (rdOk q at_ n = false → v = .slice none 0 0) ∧
    (rdOk q at_ n = true → v = .slice (some ⟨w.heap.size, 0, none⟩) n.toNat n.toNat ∧ w'.heap[w.heap.size]? = some (.cells (bc (((by_ q).drop at_.toNat).take n.toNat)).toArray 5 (0, 0)))



theorem or_add (i a b : Nat) (h : a < 2 ^ i) : a ||| b * 2 ^ i = a + b * 2 ^ i := by
  rw [Nat.or_comm, Nat.mul_comm, ← Nat.two_pow_add_eq_or_of_lt h b, Nat.add_comm]
theorem orI (i a b : Nat) (h : a < 2 ^ i) (h2 : a + b * 2 ^ i < 4294967296) : bits BinOp.or IntKind.u32 (a : Int) ((b * 2 ^ i : Nat) : Int) = ((a + b * 2 ^ i : Nat) : Int) := by
  rw [u32_or_nat _ _ (by omega) (by omega), or_add i a b h]

theorem or5 (z0 z1 z2 z3 : Nat) (b0 : z0 < 256) (b1 : z1 < 256) (b2 : z2 < 256) (b3 : z3 < 256) :
    bits BinOp.or IntKind.u32 (bits BinOp.or IntKind.u32 (bits BinOp.or IntKind.u32 (bits BinOp.or IntKind.u32 0 (z0 : Int)) ((z1 : Int) * 256)) ((z2 : Int) * 65536)) ((z3 : Int) * 16777216) = ((z0 + z1 * 256 + z2 * 65536 + z3 * 16777216 : Nat) : Int) := by
  have e0 : bits BinOp.or IntKind.u32 0 (z0 : Int) = (z0 : Int) := by
    have := u32_or_nat 0 z0 (by omega) (by omega)
    rw [Nat.zero_or] at this
    exact this
  have e1 := orI 8 z0 z1 b0 (by omega)
  have e2 := orI 16 (z0 + z1 * 256) z2 (by omega) (by omega)
  have e3 := orI 24 (z0 + z1 * 256 + z2 * 65536) z3 (by omega) (by omega)
  rw [show ((z1 * 2 ^ 8 : Nat) : Int) = (z1 : Int) * 256 by omega] at e1
  rw [show ((z2 * 2 ^ 16 : Nat) : Int) = (z2 : Int) * 65536 by omega] at e2
  rw [show ((z3 * 2 ^ 24 : Nat) : Int) = (z3 : Int) * 16777216 by omega] at e3
  rw [e0, e1, e2, e3]
theorem ret_num {k : IntKind} {a b : Int} (h : a = b) : Ending.returned (.int k a) = .returned (.int k b) := by rw [h]

set_option maxRecDepth 100000 in
set_option maxHeartbeats 1000000 in
theorem mword_any (base : Nat) (w : World) (p b : Nat) (s : Int → Mo) (hT : Mm base w p b s) (k : Int) (hi : -9223372036854775808 ≤ k ∧ k ≤ 9223372036854775807) (j : Int) (hj : -9223372036854775808 ≤ j ∧ j ≤ 9223372036854775807) :
    Calls Tryd.prog 36 #[.pointer (some ⟨p, 0, none⟩), .int .i64 k, .int .i64 j] w fun e w' => e = .returned (.int .u32 (wd (by_ (s k)) j : Nat)) ∧ w' = w := by
  obtain ⟨D, ho, hR⟩ := hT.own
  have HO := hid ho
  have HA := hid (hR k)
  have HZ := hid (zSl w)
  have HK := hid (kInt k hi)
  have c0 : w.cell? ⟨p, 0, none⟩ = some (.map (some b)) := by rw [Lib.cell_of_heap hT.var]; rfl
  obtain ⟨ao, m, hv, hrd, hm⟩ := hT.rd k
  have HV := hid hv
  have hlen := hrd.len
  generalize by_ (s k) = l at *
  by_cases h1 : (m : Int) ≤ j
  · have e1 : decide ((m : Int) ≤ j) = true := decide_eq_true h1
    have HW : Hid (wd l j = 0) := wd_far l j (by omega)
    clear hT ho hR hv hrd
    go_enter Tryd.func36, Tryd.ntmps36
    go_wp2_with (at_lookup; refine wpList_lookup_own _ rfl (.tmp 13) (.tmp 14) 83 rfl 3 24 (Maps.int_keyed Tryd.underlying3) Tryd.underlying83 slR HZ.out _ _ (slR_mk none) b 255 D rfl HO.out _ _ rfl HK.out ?_; intro v ps hv; rw [show dtm none = DataW.nil from rfl, HA.out.2] at hv; obtain rfl := slR_inv hv; rw [HV.out]; clear hv)
    go_ret
    rw [HW.out]
    exact ⟨rfl, rfl⟩
  · have e1 : decide ((m : Int) ≤ j) = false := decide_eq_false h1
    have HB := hid (fun i hi => byteAt_any w ao m m l hrd hm i hi)
    have b0 := bt_lt l j
    have b1 := bt_lt l (j + 1)
    have b2 := bt_lt l (j + 2)
    have b3 := bt_lt l (j + 3)
    have HW : Hid (wd l j = bt l j + bt l (j + 1) * 256 + bt l (j + 2) * 65536 + bt l (j + 3) * 16777216) := rfl
    clear hT ho hR hv hrd
    go_enter Tryd.func36, Tryd.ntmps36
    go_wp2_with (at_lookup; refine wpList_lookup_own _ rfl (.tmp 13) (.tmp 14) 83 rfl 3 24 (Maps.int_keyed Tryd.underlying3) Tryd.underlying83 slR HZ.out _ _ (slR_mk none) b 255 D rfl HO.out _ _ rfl HK.out ?_; intro v ps hv; rw [show dtm none = DataW.nil from rfl, HA.out.2] at hv; obtain rfl := slR_inv hv; rw [HV.out]; clear hv)
    refine wp_loop_rounds 5 ?_
    rw [rounds_succ]
    go_wp2_with fail
    refine (HB.out j hj).mono ?_
    rintro e w1 ⟨rfl, rfl⟩
    go_wp2
    rw [rounds_succ]
    go_wp2_with fail
    refine (HB.out (j + 1) (by omega)).mono ?_
    rintro e w1 ⟨rfl, rfl⟩
    go_wp2
    rw [rounds_succ]
    go_wp2_with fail
    refine (HB.out (j + 2) (by omega)).mono ?_
    rintro e w1 ⟨rfl, rfl⟩
    go_wp2
    rw [rounds_succ]
    go_wp2_with fail
    refine (HB.out (j + 3) (by omega)).mono ?_
    rintro e w1 ⟨rfl, rfl⟩
    go_wp2
    rw [rounds_succ]
    go_wp2
    go_ret
    rw [HW.out]
    exact ⟨ret_num (or5 _ _ _ _ b0 b1 b2 b3), rfl⟩
end Go.Proofs.YtpcepgecbdjdfaaDoor

/- Memories of one's own, call by call; what the law's awake answers. -/
namespace Go.Proofs.YtpcepgecbdjdfaaDoor
open Go Go.RowKit


/-- From a row's list of just these three. -/
def L3 : List (String × DataW Unit × Nat) := [("tableau/api.ErrArg", Rows.laid_tableau_api_ErrArg, 0), ("tableau/api.ErrStride", Rows.laid_tableau_api_ErrStride, 2), ("tableau/api.ErrFile", Rows.laid_tableau_api_ErrFile, 1)]
theorem laid3 : ∀ x ∈ L3, Tryd.prog.globalNamed x.1 = some x.2.2 ∧ (Tryd.prog.globals[x.2.2]?).map (·.type) = some 36 ∧ ∃ t, x.2.1 = .iface "*errors.errorString" (.ptr (.agg [.lit (.string t)])) := by
  intro x hx
  simp only [L3, List.mem_cons, List.not_mem_nil, or_false] at hx
  rcases hx with rfl | rfl | rfl
  all_goals exact ⟨by kernel_rfl, by kernel_rfl, _, rfl⟩
theorem errs3 {W : World} (h : laidMetH Tryd.prog (L3.map fun x => (x.1, x.2.1)) W) : ∃ es, E3 W es := by
  rw [MakeChecks.laidMetH_plain _ _ _ (by kernel_rfl)] at h
  obtain ⟨es, hE⟩ := errs_of_laid L3 laid3 h
  have hlen := hE.len
  match es, hlen with
  | [a, b, c], _ => exact ⟨[a, a, a, a, a, a, a, b, c], (hE.each 0 _ _ rfl rfl).1, (hE.each 1 _ _ rfl rfl).1, (hE.each 2 _ _ rfl rfl).1⟩

/-- A literal's row. -/
theorem rd_lit (w : World) (l : List UInt8) (C : Array Value) (hC : C.toList = bc l) (e : TypeId) (fr : Nat × Nat) (hl : l.length ≤ maxLen) : Rd (w.alloc (.cells C e fr)) (some ⟨w.heap.size, 0, none⟩) l.length l.length l :=
  ⟨rfl, Nat.le_refl _, hl, (fun h => by cases h), fun x hx j u hu => by
    cases hx
    rw [Go.WideShapes.add_plain, Nat.zero_add, World.cell?_alloc_mark, ← Array.getElem?_toList, hC]
    exact hu⟩
theorem rd_block {w : World} {g : Nat} {l : List UInt8} {e : TypeId} (h : w.heap[g]? = some (.cells (bc l).toArray e (0, 0))) (hl : l.length ≤ maxLen) : Rd w (some ⟨g, 0, none⟩) l.length l.length l :=
  ⟨rfl, Nat.le_refl _, hl, (fun h => by cases h), fun x hx j u hu => by
    cases hx
    rw [Go.WideShapes.add_plain, Nat.zero_add, Lib.cell_of_heap h]
    simpa using hu⟩
theorem rd_low {w : World} {a : Option Addr} {n c : Nat} {l : List UInt8} (h : Rd w a n c l) : ∀ x, a = some x → 0 < l.length → x.block < w.heap.size := fun x hx hl => by
  have := h.len
  obtain ⟨b, off, he, hb, _⟩ := h.plain (by omega)
  rw [hx] at he
  cases he
  exact hb
theorem Kp.rd {X : List Nat} {w w' : World} (h : Kp X w w') {a : Option Addr} {n c : Nat} {l : List UInt8} (hr : Rd w a n c l) (hn : ∀ x, a = some x → 0 < l.length → x.block ∉ X) : Rd w' a n c l :=
  ⟨hr.len, hr.le, hr.max, hr.hnil, fun x hx j u hu => by
    have hj : j < l.length := by
      rcases Nat.lt_or_ge j l.length with h' | h'
      · exact h'
      · rw [List.getElem?_eq_none (by rw [bc_length]; exact h')] at hu; cases hu
    refine h.cell (hr.cells x hx j u hu) ?_
    have := hn x hx (by omega)
    unfold Addr.add
    split <;> simpa using this⟩

/-- The memories that a call made first, and the world since. -/
structure Ms (w x : World) (p b : Nat) (s : Int → Mo) : Prop where
  mm : Mm w.heap.size x p b s
  bel : Below w.heap.size w x

variable {w x : World} {p b : Nat} {s : Int → Mo} {es : List Addr}

theorem Ms.on (h : Ms w x p b s) {y : World} (hb : Below x.heap.size x y) : Ms w y p b s := ⟨h.mm.on hb, Below.on h.bel hb⟩
theorem Ms.kp (h : Ms w x p b s) {y : World} {s' : Int → Mo} {X : List Nat} (ht : Mm w.heap.size y p b s') (hk : Kp X x y) (hX : ∀ j ∈ X, w.heap.size ≤ j) : Ms w y p b s' :=
  ⟨ht, h.bel.trans (hk.below h.bel.size hX)⟩

theorem Ms.set (h : Ms w x p b s) (hE : E3 w es) (k n : Int) :
    Calls Tryd.prog 11 #[.pointer (some ⟨p, 0, none⟩), .int .i64 k, .int .i64 n] x fun e y => e = .returned (erv es (setE k n)) ∧ Ms w y p b (if setE k n = 0 then mupd s k (some (x.heap.size, rsz (by_ (s k)) n.toNat)) else s) ∧ Kp [b] x y := by
  refine (mset_any _ x es (hE.below h.bel) _ _ s h.mm h.bel.size k n).mono ?_
  rintro e y ⟨rfl, ht, hk⟩
  exact ⟨rfl, h.kp ht hk (fun j hj => by simp only [List.mem_cons, List.not_mem_nil, or_false] at hj; rw [hj]; exact h.mm.lob), hk⟩
theorem Ms.setok (h : Ms w x p b s) (hE : E3 w es) (k : Int) (n : Nat) (hk : 1 ≤ k ∧ k ≤ 255) (hn : n ≤ 65536) :
    Calls Tryd.prog 11 #[.pointer (some ⟨p, 0, none⟩), .int .i64 k, .int .i64 n] x fun e y => e = .returned .nilIface ∧ Ms w y p b (mupd s k (some (x.heap.size, rsz (by_ (s k)) n))) ∧ Kp [b] x y := by
  refine (h.set hE k n).mono ?_
  rintro e y ⟨rfl, ht, hk2⟩
  have e0 : setE k n = 0 := by rw [setE, if_neg (by omega)]
  rw [e0, if_pos rfl, Int.toNat_natCast] at ht
  rw [e0]
  exact ⟨rfl, ht, hk2⟩
theorem Ms.write (h : Ms w x p b s) (hE : E3 w es) (k j : Int) (hi : -9223372036854775808 ≤ k ∧ k ≤ 9223372036854775807) (hj : -9223372036854775808 ≤ j ∧ j ≤ 9223372036854775807) (a : Option Addr) (n c : Nat) (l : List UInt8) (hr : Rd x a n c l) (hn : n ≤ 65536) :
    Calls Tryd.prog 12 #[.pointer (some ⟨p, 0, none⟩), .int .i64 k, .int .i64 j, .slice a n c] x fun e y => e = .returned (erv es (wrE (s k) j n)) ∧ Ms w y p b (wrS s k j l) ∧ Kp (mob (s k)) x y := by
  refine (mwrite_any _ x es (hE.below h.bel) _ _ s h.mm k hi j hj a n c l hr hn).mono ?_
  rintro e y ⟨rfl, ht, hk⟩
  refine ⟨by rw [hr.len], h.kp ht hk (fun i hm => ?_), hk⟩
  cases hq : s k with
  | none => rw [hq] at hm; simp [mob] at hm
  | some q =>
    rw [hq] at hm
    simp only [mob, List.mem_cons, List.not_mem_nil, or_false] at hm
    rw [hm]
    exact (h.mm.row k q hq).1
theorem inn_nat {N j n : Nat} (h : j + n ≤ N) : minn N j n = true := by
  simp only [minn, Bool.and_eq_true, decide_eq_true_eq]
  omega
theorem Ms.writeok (h : Ms w x p b s) (hE : E3 w es) (k : Int) (j : Nat) (hi : 1 ≤ k ∧ k ≤ 255) (a : Option Addr) (n c : Nat) (l : List UInt8) (hr : Rd x a n c l) (g : Nat) (L : List UInt8) (hq : s k = some (g, L)) (hl : j + n ≤ L.length) :
    Calls Tryd.prog 12 #[.pointer (some ⟨p, 0, none⟩), .int .i64 k, .int .i64 j, .slice a n c] x fun e y => e = .returned .nilIface ∧ Ms w y p b (mupd s k (some (g, wro L j l))) ∧ Kp [g] x y := by
  have hL := (h.mm.row k _ hq).2.2.2.2
  simp only at hL
  refine (h.write hE k j (by omega) (by omega) a n c l hr (by omega)).mono ?_
  rintro e y ⟨rfl, ht, hk⟩
  rw [hq] at hk ⊢
  rw [wrS, hq] at ht
  simp only [hr.len, inn_nat hl, if_true, Int.toNat_natCast] at ht
  exact ⟨by rw [wrE]; simp only [inn_nat hl, if_true]; rfl, ht, hk⟩
theorem Ms.word (h : Ms w x p b s) (k j : Int) (hi : -9223372036854775808 ≤ k ∧ k ≤ 9223372036854775807) (hj : -9223372036854775808 ≤ j ∧ j ≤ 9223372036854775807) :
    Calls Tryd.prog 36 #[.pointer (some ⟨p, 0, none⟩), .int .i64 k, .int .i64 j] x fun e y => e = .returned (.int .u32 (wd (by_ (s k)) j : Nat)) ∧ y = x := mword_any _ x p b s h.mm k hi j hj

theorem msnew (w : World) : Calls Tryd.prog 10 #[] w fun e y => e = .returned (.pointer (some ⟨w.heap.size + 1, 0, none⟩)) ∧ Ms w y (w.heap.size + 1) w.heap.size (fun _ => none) := by
  refine (mnew_any w).mono ?_
  rintro e y ⟨rfl, hb, hM⟩
  exact ⟨rfl, hM _ (Nat.le_refl _), hb⟩
/-- Made later than something else. -/
theorem msnew_at {w0 w : World} (hw : Below w0.heap.size w0 w) : Calls Tryd.prog 10 #[] w fun e y => e = .returned (.pointer (some ⟨w.heap.size + 1, 0, none⟩)) ∧ Ms w0 y (w.heap.size + 1) w.heap.size (fun _ => none) ∧ Below w.heap.size w y := by
  refine (mnew_any w).mono ?_
  rintro e y ⟨rfl, hb, hM⟩
  exact ⟨rfl, ⟨hM _ hw.size, Below.on hw hb⟩, hb⟩

end Go.Proofs.YtpcepgecbdjdfaaDoor

/- What is loaded; the program's Load. Written by paint/mk_ptg.py. -/
namespace Go.Proofs.YtpcepgecbdjdfaaDoor
open Go Go.RowKit

/-- A point of a buffer. -/
def ldP (B : List UInt8) (O S W : Nat) (fm : Int) (i : Nat) : Int := lod (wd B ((O + S * (i / W) + 4 * (i % W) : Nat) : Int) : Nat) fm
/-- The first n points. -/
def ldL (B : List UInt8) (O S W : Nat) (fm : Int) (n : Nat) : List Int := (List.range n).map (ldP B O S W fm)
theorem ldL_length {B : List UInt8} {O S W n : Nat} {fm : Int} : (ldL B O S W fm n).length = n := by simp [ldL]
theorem ldL_succ {B : List UInt8} {O S W n : Nat} {fm : Int} : ldL B O S W fm (n + 1) = ldL B O S W fm n ++ [ldP B O S W fm n] := by simp [ldL, List.range_succ]
theorem ldP_at {B : List UInt8} {O S W j c : Nat} {fm : Int} (hc : c < W) : ldP B O S W fm (j * W + c) = lod (wd B ((O + S * j + 4 * c : Nat) : Int) : Nat) fm := by
  rw [ldP, place_div hc, place_mod hc]
theorem wd_col (B : List UInt8) (j : Int) : Col (wd B j : Nat) := by
  have h0 := wd_lt B j
  unfold Col
  omega
theorem lod_col {u f : Int} (hu : Col u) : Col (lod u f) := by
  unfold lod
  split
  · exact hu
  · split
    · have h1 := pt0_bd u
      have h2 := pt1_bd u
      have h3 := pt2_bd u
      unfold Col jn
      have e0 := ct_bd 255
      have e1 := ct_bd (pt2 u)
      have e2 := ct_bd (pt1 u)
      have e3 := ct_bd (pt0 u)
      omega
    · unfold Col
      omega
theorem ldP_col {B : List UInt8} {O S W : Nat} {fm : Int} {i : Nat} : Col (ldP B O S W fm i) := lod_col (wd_col _ _)

/-- A row of points of the call's own; the call began in w. -/
structure OwPx (w u : World) (v : Value) (l : List Int) : Prop where
  own : u.ownsRow w.heap.size 58 1 v l.length (l.map e32)
  bel : Below w.heap.size w u
  col : ∀ z ∈ l, Col z
theorem OwPx.on {w u u' : World} {v : Value} {l : List Int} (h : OwPx w u v l) (hb : Below u.heap.size u u') : OwPx w u' v l := ⟨ownsRow_below h.own hb, Below.on h.bel hb, h.col⟩
theorem OwPx.nil (w : World) : OwPx w w (.slice none 0 0) [] := ⟨World.ownsRow_nil _ _ _ _, Below.refl _ _, by simp⟩
theorem OwPx.grown {w u u' : World} {v v' : Value} {l : List Int} {z : Int} (h : OwPx w u v l) (hz : Col z) (o2 : u'.ownsRow w.heap.size 58 1 v' (l.length + 1) (l.map e32 ++ [e32 z])) (g : u.grownBy u' v.ownBlock) : OwPx w u' v' (l ++ [z]) :=
  ⟨by rw [List.length_append, List.map_append]; exact o2, h.bel.grown g h.bel.size (fun k hk => (h.own.lt k hk).1), fun y hy => by
    rcases List.mem_append.1 hy with hy | hy
    · exact h.col y hy
    · rw [List.mem_singleton.1 hy]; exact hz⟩
theorem OwPx.rd {w u : World} {v : Value} {l : List Int} (h : OwPx w u v l) : ∃ a c, v = .slice a l.length c ∧ RdI .u32 u a l.length c l ∧ ∀ x, a = some x → w.heap.size ≤ x.block ∧ x.block < u.heap.size := rdw_of_owns h.own h.col
theorem src1W (u : World) (z : Int) : Src Tryd.prog 1 41 (.slice (some ⟨u.heap.size, 0, none⟩) 1 1) 1 [e32 z] (u.alloc (.cells #[.int .u32 z] 58)) :=
  Src.ofSlice (P := Tryd.prog) _ Tryd.underlying41 ⟨u.heap.size, 0, none⟩ 1 1 [e32 z] rfl (fun q x hx => by
    match q, hx with
    | 0, hx => cases hx; simp [Addr.add, e32]
    | q + 1, hx => simp at hx) (by simp [Value.oneCell', e32])
/-- 'make([]uint32, 0, n)'. -/
theorem make0W (w : World) (n : Nat) (hn : n ≤ 2000000000) : ∃ w1, (Instr.makeSlice 41 (.int .i64 0) (.int .i64 (n : Int))).run Tryd.prog w = .ok (.slice (some ⟨w.heap.size, 0, none⟩) 0 n) w1 ∧ OwPx w w1 (.slice (some ⟨w.heap.size, 0, none⟩) 0 n) [] := by
  obtain ⟨i0, hi, hz0, hz1, hz2⟩ := info32p
  have hr := run_make (P := Tryd.prog) w 41 58 i0 (.int .u32 0) Tryd.underlying41 hi hz0 .i64 .i64 0 n (by omega) (by omega) (by rw [hz2]; omega) (by omega)
  simp only [Int.toNat_natCast] at hr
  refine ⟨_, hr, ⟨⟨rfl, .inr ⟨w.heap.size, n, _, rfl, Nat.le_refl _, heap_alloc_new w _, Nat.zero_le _, by simp only [maxLen]; omega, by rw [size_madeCells, hz1], by rfl⟩⟩, (Below.refl _ _).alloc (Nat.le_refl _) _, by simp⟩⟩

/-- What Load hands back. -/
def LdR (w : World) (id : Int) (B : List UInt8) (off wd_ h st fm : Int) (e : Ending) (w' : World) : Prop :=
  ∃ W H a n c l, e = .returned (.agg #[.int .i64 id, .int .i64 W, .int .i64 H, .slice a n c]) ∧ Below w.heap.size w w' ∧ RdI .u32 w' a n c l ∧ (∀ x, a = some x → w.heap.size ≤ x.block) ∧
    (if rmE 65536 off wd_ h st fm = 0 then W = wd_ ∧ H = h ∧ l = ldL B off.toNat st.toNat wd_.toNat fm (wd_.toNat * h.toNat) else W = 0 ∧ H = 0 ∧ l = [])

/-- The numbers of a buffer that has room. -/
theorem rm_nat {off wd_ h st fm : Int} (hr : rmE 65536 off wd_ h st fm = 0) : ∃ O W H S : Nat, off = O ∧ wd_ = W ∧ h = H ∧ st = S ∧ 1 ≤ W ∧ 1 ≤ H ∧ 4 * W ≤ S ∧ O + S * H ≤ 65536 ∧ (fm = 0 ∨ fm = 1) := by
  unfold rmE at hr
  split at hr
  · cases hr
  · split at hr
    · cases hr
    · rename_i h1 h2
      have h3 : ¬ (65536 : Int) < off + st * h := fun q => h2 (.inr (.inr (.inr (.inr q))))
      refine ⟨off.toNat, wd_.toNat, h.toNat, st.toNat, by omega, by omega, by omega, by omega, by omega, by omega, by omega, ?_, by omega⟩
      have e1 : ((st.toNat * h.toNat : Nat) : Int) = st * h := by rw [Int.natCast_mul]; congr 1 <;> omega
      omega

theorem info_pim1 : (Tryd.prog.info? 43).map (·.size) = some 4 := by kernel_rfl
set_option maxRecDepth 100000 in
set_option maxHeartbeats 8000000 in
theorem pload_any (base : Nat) (w : World) (p b : Nat) (s : Int → Mo) (hT : Mm base w p b s) (es : List Addr) (c7 : w.cell? ⟨3, 0, none⟩ = some (erv es 7)) (c8 : w.cell? ⟨2, 0, none⟩ = some (erv es 8))
    (id key off wd_ h st fm : Int) (hk : I64 key) (ho : I64 off) (hw : I64 wd_) (hh : I64 h) (hs : I64 st) (hf : I64 fm) :
    Calls Tryd.prog 15 #[.int .i64 id, .agg #[.int .i64 key, .int .i64 off, .int .i64 wd_, .int .i64 h, .int .i64 st, .int .i64 fm], .pointer (some ⟨p, 0, none⟩)] w (LdR w id (by_ (s key)) off wd_ h st fm) := by
  rw [I64] at hk ho hw hh hs hf
  have hA := bel_new w (.cells #[.int .i64 key, .int .i64 off, .int .i64 wd_, .int .i64 h, .int .i64 st, .int .i64 fm] 45)
  have hI := bk_new w #[.int .i64 key, .int .i64 off, .int .i64 wd_, .int .i64 h, .int .i64 st, .int .i64 fm] 45
  obtain ⟨U0, hU0⟩ : ∃ U0, U0 = w.alloc (.cells #[.int .i64 key, .int .i64 off, .int .i64 wd_, .int .i64 h, .int .i64 st, .int .i64 fm] 45) := ⟨_, rfl⟩
  have hs0 : U0.heap.size = w.heap.size + 1 := by rw [hU0, size_new]
  rw [← hU0] at hA hI
  have hB := bel_new U0 (.cells #[.int .i64 0, .int .i64 0, .int .i64 0, .slice none 0 0] 43)
  have hM := bk_new U0 #[.int .i64 0, .int .i64 0, .int .i64 0, .slice none 0 0] 43
  rw [hs0] at hM
  obtain ⟨U, hU⟩ : ∃ U, U = U0.alloc (.cells #[.int .i64 0, .int .i64 0, .int .i64 0, .slice none 0 0] 43) := ⟨_, rfl⟩
  have hsU : U.heap.size = w.heap.size + 1 + 1 := by rw [hU, size_new, hs0]
  rw [← hU] at hB hM
  have hbU := Below.on hA hB
  have HI := hid (hI.on hB)
  have HM := hid hM
  have HBU := hid hbU
  have HT := hid (hT.on hbU)
  have CR := hid (room_at es 65536 off wd_ h st fm U (by rw [hbU.cell (World.block_lt_of_cell? w _ c7)]; exact c7) (by rw [hbU.cell (World.block_lt_of_cell? w _ c8)]; exact c8) (by decide) ho hw hh hs)
  have HU : Hid (U = (w.alloc (.cells #[.int .i64 key, .int .i64 off, .int .i64 wd_, .int .i64 h, .int .i64 st, .int .i64 fm] 45)).alloc (.cells #[.int .i64 0, .int .i64 0, .int .i64 0, .slice none 0 0] 43)) := by rw [Hid, hU, hU0]
  obtain ⟨R, hR⟩ : ∃ R, R = LdR w id (by_ (s key)) off wd_ h st fm := ⟨_, rfl⟩
  rw [← hR]
  have t0 := HI.out.cell 0
  have t1 := HI.out.cell 1
  have t2 := HI.out.cell 2
  have t3 := HI.out.cell 3
  have t4 := HI.out.cell 4
  have t5 := HI.out.cell 5
  have HMF := hid HM.out.fz
  have m0 := HM.out.cell 0
  have m1 := HM.out.cell 1
  have m2 := HM.out.cell 2
  have m3 := HM.out.cell 3
  cases hr : rmE 65536 off wd_ h st fm with
  | succ k =>
    rw [hr] at CR
    have HF : Hid (∀ x, Below w.heap.size w x → R (.returned (.agg #[.int .i64 id, .int .i64 0, .int .i64 0, .slice none 0 0])) x) := fun x hb => by
      rw [hR]
      exact ⟨0, 0, none, 0, 0, [], rfl, hb, RdI.nil _ _, (fun y hy => by cases hy), by rw [hr, if_neg (by omega)]; exact ⟨rfl, rfl, rfl⟩⟩
    obtain ⟨ex, hex⟩ : ∃ x, erv es (k + 1) = .iface 166 x := ⟨_, rfl⟩
    rw [hex] at CR
    clear hR hT hA hB hI hM hU hU0 hs0 hbU c7 c8 hex hr
    go_enter Tryd.func15, Tryd.ntmps15
    go_wp2_with fail
    rw [← HU.out]
    refine CR.out.mono ?_
    rintro e w1 ⟨rfl, rfl⟩
    have f0 := HMF.out
    go_wp2
    refine bodyPost_ret (results_cell_row rfl _ _ (w.heap.size + 1) _ _ _ _ rfl ((((HM.out.set 0 _).set 1 _).set 2 _).set 3 _).obj Tryd.underlying43 rfl info_pim1) rfl ?_
    exact HF.out _ ((((HBU.out.setCell (p := ⟨w.heap.size + 1, 0, none⟩) (by show w.heap.size ≤ w.heap.size + 1; omega) _).setCell (p := ⟨w.heap.size + 1, 1, none⟩) (by show w.heap.size ≤ w.heap.size + 1; omega) _).setCell (p := ⟨w.heap.size + 1, 2, none⟩) (by show w.heap.size ≤ w.heap.size + 1; omega) _).setCell (p := ⟨w.heap.size + 1, 3, none⟩) (by show w.heap.size ≤ w.heap.size + 1; omega) _)
  | zero =>
    rw [hr, show erv es 0 = .nilIface from rfl] at CR
    obtain ⟨O, W, H, S, rfl, rfl, rfl, rfl, hW, hH, hS, hO, hfm⟩ := rm_nat hr
    have hWn : W * H ≤ 16384 := by
      have h1 : 4 * W * H ≤ S * H := Nat.mul_le_mul_right H hS
      rw [Nat.mul_assoc] at h1
      omega
    have hSb : S ≤ S * H := Nat.le_mul_of_pos_right S hH
    have HSJ : Hid (∀ j, j < H → S * j + S ≤ S * H) := fun j hj => by
      have := Nat.mul_le_mul_left S (show j + 1 ≤ H from hj)
      rwa [Nat.mul_add, Nat.mul_one] at this
    have hHb : H ≤ 65536 := by
      have := Nat.le_mul_of_pos_left H (show 0 < S by omega)
      omega
    obtain ⟨T, hTT⟩ : ∃ T, S * H = T := ⟨_, rfl⟩
    rw [hTT] at hSb hO HSJ
    obtain ⟨N, hN⟩ : ∃ N, W * H = N := ⟨_, rfl⟩
    rw [hN] at hWn
    have mWH : (W : Int) * (H : Int) = (N : Int) := by rw [← hN, Int.natCast_mul]
    have HNN : Hid (H * W = N) := by rw [Hid, Nat.mul_comm, hN]
    obtain ⟨B, hBB⟩ : ∃ B, by_ (s key) = B := ⟨_, rfl⟩
    have HB := hid hBB
    rw [hBB] at hR
    have HF : Hid (∀ x a c, Below w.heap.size w x → RdI .u32 x a N c (ldL B O S W fm N) → (∀ y, a = some y → w.heap.size ≤ y.block) → R (.returned (.agg #[.int .i64 id, .int .i64 W, .int .i64 H, .slice a N c])) x) := fun x a c hb hr2 hn => by
      rw [hR]
      refine ⟨W, H, a, N, c, _, rfl, hb, hr2, hn, ?_⟩
      rw [hr, if_pos rfl]
      exact ⟨rfl, rfl, by simp only [Int.toNat_natCast]; rw [hN]⟩
    obtain ⟨w1, hmk, hO1⟩ := make0W U N (by omega)
    have y3 := (HI.out.on hO1.bel).cell 3
    rw [hsU] at hO1 hmk
    have HO1 := hid hO1
    have hIL : Hid (∀ j c, j < H → c < W → j * W + c < N) := fun j c hj hc => by
      rw [← HNN.out]
      have := Nat.mul_le_mul_right W (show j + 1 ≤ H from hj)
      rw [Nat.add_mul, Nat.one_mul] at this
      omega
    obtain ⟨i0, hi, hz0, hz1, hz2⟩ := info32p
    clear hR hT hA hB hI hM hU hU0 hs0 hbU c7 c8 hr hTT hN hBB hO1 HMF
    go_enter Tryd.func15, Tryd.ntmps15
    go_wp2_with fail
    rw [← HU.out]
    refine CR.out.mono ?_
    rintro e u1 ⟨rfl, hu1⟩
    obtain rfl : U = u1 := hu1.symm
    clear HU CR
    go_wp2
    clear t0 t1 t2 t3 t4 t5 m0 m1 m2 m3 hmk mWH y3
    go_loopw [7, 37] (fun v i wr => ∃ j : Nat, i = .int .i64 j ∧ j ≤ H ∧ OwPx U wr v (ldL B O S W fm (j * W))) (fun _ i _ => H - (numOf i).toNat)
    case atStart => exact ⟨0, rfl, by omega, by rw [Nat.zero_mul]; exact HO1.out⟩
    case round =>
      obtain ⟨j, rfl, hj, hOw⟩ := hrel
      have HO := hid hOw
      clear hOw HO1
      by_cases hgo : j < H
      · have e1 : decide ((j : Int) < H) = true := decide_eq_true (by omega)
        have t2 := (HI.out.on HO.out.bel).cell 2
        go_wp2
        clear t2
        go_loopw [7, 42] (fun v i wr2 => ∃ c : Nat, i = .int .i64 c ∧ c ≤ W ∧ OwPx U wr2 v (ldL B O S W fm (j * W + c))) (fun _ i _ => W - (numOf i).toNat)
        case atStart => exact ⟨0, rfl, by omega, HO.out⟩
        case round =>
          obtain ⟨c, rfl, hc, hOw2⟩ := hrel
          have HO2 := hid hOw2
          clear hOw2 HO
          by_cases hgc : c < W
          · have e2 : decide ((c : Int) < W) = true := decide_eq_true (by omega)
            have hsj := HSJ.out j hgo
            obtain ⟨sj, hsj2⟩ : ∃ sj, S * j = sj := ⟨_, rfl⟩
            rw [hsj2] at hsj
            have p1 : (S : Int) * (j : Int) = (sj : Int) := by rw [← hsj2, Int.natCast_mul]
            obtain ⟨P, hP⟩ : ∃ P, O + sj + 4 * c = P := ⟨_, rfl⟩
            have hPb : P ≤ 65536 := by omega
            have p2 : (O : Int) + (sj : Int) + 4 * (c : Int) = (P : Int) := by omega
            have HPT : Hid (ldP B O S W fm (j * W + c) = lod (wd B (P : Int) : Nat) fm) := by
              rw [Hid, ldP_at hgc, hsj2, hP]
            obtain ⟨k, hkk⟩ : ∃ k, j * W + c = k := ⟨_, rfl⟩
            have hkN := hIL.out j c hgo hgc
            have HKK : Hid (j * W + (c + 1) = k + 1) := by rw [Hid, ← hkk]; omega
            rw [hkk] at HO2 HPT hkN
            obtain ⟨a9, c9, rfl, _⟩ := HO2.out.rd
            have hl9 : (ldL B O S W fm k).length = k := ldL_length
            rw [hl9] at HO2 ⊢
            have t1 := (HI.out.on HO2.out.bel).cell 1
            have t4 := (HI.out.on HO2.out.bel).cell 4
            have hlU : w.heap.size < U.heap.size := by omega
            clear hsj2 hP hkk
            go_upto_region 11 with fail
            clear t1 t4
            have HW : Hid (RowKit.Below wr.heap.size wr wr.drew) := (Below.refl _ _).drew
            refine wp_region_held_drew (S := fun x => RowKit.Below U.heap.size U x) (by kernel_rfl) ?hh (fun hHeld => ?_)
            case hh => exact (HO2.out.bel.drew)
            generalize World.drew _ = W0 at hHeld HW ⊢
            try dsimp only at hHeld
            refine wpAnyH_take (i := 0) (v := ?_) rfl (by kernel_rfl) (by kernel_rfl) (by kernel_rfl) (fun _ _ _ h => h) (Or.inl ⟨by kernel_rfl, ?hy0⟩) (by assumption) ?_
            case hy0 => (intro wI hSw; (try dsimp only at hSw); have k0 := (HI.out.on hSw).cell 0; have k5 := (HI.out.on hSw).cell 5; go_simp; try with_reducible rfl)
            try simp only [Act.put, List.getElem_toArray, List.getElem_cons_zero, List.setIfInBounds_toArray, List.set_cons_zero, List.set_cons_succ]
            refine wpAnyH_take (i := 1) (v := ?_) rfl (by kernel_rfl) (by kernel_rfl) (by kernel_rfl) (fun _ _ _ h => h) (Or.inl ⟨by kernel_rfl, ?hy1⟩) (by assumption) ?_
            case hy1 => (intro wI hSw; (try dsimp only at hSw); have k0 := (HI.out.on hSw).cell 0; have k5 := (HI.out.on hSw).cell 5; go_simp; try with_reducible rfl)
            try simp only [Act.put, List.getElem_toArray, List.getElem_cons_zero, List.getElem_cons_succ, List.setIfInBounds_toArray, List.set_cons_zero, List.set_cons_succ]
            refine wpAnyH_take (i := 2) (v := ?_) rfl (by kernel_rfl) (by kernel_rfl) (by kernel_rfl) (fun _ _ _ h => h) (Or.inl ⟨by kernel_rfl, ?hy2⟩) (by assumption) ?_
            case hy2 => (intro wI hSw; (try dsimp only at hSw); have k0 := (HI.out.on hSw).cell 0; have k5 := (HI.out.on hSw).cell 5; go_simp; try with_reducible rfl)
            try simp only [Act.put, List.getElem_toArray, List.getElem_cons_zero, List.getElem_cons_succ, List.setIfInBounds_toArray, List.set_cons_zero, List.set_cons_succ]
            refine wpAnyH_take (i := 3) (v := ?_) rfl (by kernel_rfl) (by kernel_rfl) (by kernel_rfl) (fun _ _ _ h => h) (Or.inl ⟨by kernel_rfl, ?hy3⟩) (by assumption) ?_
            case hy3 => (intro wI hSw; (try dsimp only at hSw); have k0 := (HI.out.on hSw).cell 0; have k5 := (HI.out.on hSw).cell 5; go_simp; try with_reducible rfl)
            try simp only [Act.put, List.getElem_toArray, List.getElem_cons_zero, List.getElem_cons_succ, List.setIfInBounds_toArray, List.set_cons_zero, List.set_cons_succ]
            refine wpAnyH_take (i := 4) (v := ?_) rfl (by kernel_rfl) (by kernel_rfl) (by kernel_rfl) (fun _ _ _ h => h) (Or.inl ⟨by kernel_rfl, ?hy4⟩) (by assumption) ?_
            case hy4 => (intro wI hSw; (try dsimp only at hSw); have k0 := (HI.out.on hSw).cell 0; have k5 := (HI.out.on hSw).cell 5; go_simp; try with_reducible rfl)
            try simp only [Act.put, List.getElem_toArray, List.getElem_cons_zero, List.getElem_cons_succ, List.setIfInBounds_toArray, List.set_cons_zero, List.set_cons_succ]
            refine wpAnyH_take (i := 6) (v := ?_) rfl (by kernel_rfl) (by kernel_rfl) (by kernel_rfl) (fun _ _ _ h => h) (Or.inl ⟨by kernel_rfl, ?hy6⟩) (by assumption) ?_
            case hy6 => (intro wI hSw; (try dsimp only at hSw); have k0 := (HI.out.on hSw).cell 0; have k5 := (HI.out.on hSw).cell 5; go_simp; try with_reducible rfl)
            try simp only [Act.put, List.getElem_toArray, List.getElem_cons_zero, List.getElem_cons_succ, List.setIfInBounds_toArray, List.set_cons_zero, List.set_cons_succ]
            refine wpAnyH_take (i := 7) (v := ?_) rfl (by kernel_rfl) (by kernel_rfl) (by kernel_rfl) (fun _ _ _ h => h) (Or.inl ⟨by kernel_rfl, ?hy7⟩) (by assumption) ?_
            case hy7 => (intro wI hSw; (try dsimp only at hSw); have k0 := (HI.out.on hSw).cell 0; have k5 := (HI.out.on hSw).cell 5; go_simp; try with_reducible rfl)
            try simp only [Act.put, List.getElem_toArray, List.getElem_cons_zero, List.getElem_cons_succ, List.setIfInBounds_toArray, List.set_cons_zero, List.set_cons_succ]
            refine wpAnyH_ready (rs := [5]) (by kernel_rfl) (by simp) ?_
            refine AllReadyH.cons rfl (fun K hK => ?_) AllReadyH.nil
            go_simp
            go_wp2_with fail
            refine (mword_any base _ p b s (HT.out.on hHeld) key hk (P : Int) (by omega)).mono ?_
            rintro e uu ⟨rfl, hu2⟩
            obtain rfl := hu2.symm
            rw [HB.out]
            refine hK.out _ _ hHeld (fun _ => ?_)
            clear hK K
            try simp only [Act.put, List.getElem_toArray, List.getElem_cons_zero, List.getElem_cons_succ, List.setIfInBounds_toArray, List.set_cons_zero, List.set_cons_succ]
            refine wpAnyH_ready (rs := [8]) (by kernel_rfl) (by simp) ?_
            refine AllReadyH.cons rfl (fun K hK => ?_) AllReadyH.nil
            go_simp
            go_wp2_with fail
            refine (load_any _ fm (wd_col B P) hf _).mono ?_
            rintro e W8 ⟨rfl, hb8⟩
            rw [← HPT.out]
            refine hK.out _ _ (Below.on hHeld hb8) (fun _ => ?_)
            have HW8 := hid (Below.on HW.out hb8)
            have hH8 := Below.on hHeld hb8
            clear hK K hHeld hb8
            have hHeld := hH8
            clear hH8
            try simp only [Act.put, List.getElem_toArray, List.getElem_cons_zero, List.getElem_cons_succ, List.setIfInBounds_toArray, List.set_cons_zero, List.set_cons_succ]
            refine wpAnyH_ready (rs := [9]) (by kernel_rfl) (by simp) ?_
            refine AllReadyH.cons rfl (fun K hK => ?_) AllReadyH.nil
            have hb9 := bel_new W8 (.cells #[.int .u32 (ldP B O S W fm k)] 58)
            have HS9 := hid (src1W W8 (ldP B O S W fm k))
            have HO9 := hid ((HO2.out.on HW8.out).on hb9)
            have hH9 := Below.on hHeld hb9
            go_simp
            refine hK.out _ _ hH9 (fun _ => ?_)
            clear hK K hHeld hb9
            have hHeld := hH9
            clear hH9
            try simp only [Act.put, List.getElem_toArray, List.getElem_cons_zero, List.getElem_cons_succ, List.setIfInBounds_toArray, List.set_cons_zero, List.set_cons_succ]
            refine wpAnyH_ready (rs := [10]) (by kernel_rfl) (by simp) ?_
            refine AllReadyH.cons rfl (fun K hK => ?_) AllReadyH.nil
            refine step_appP _ (by kernel_rfl) (.tmp 55) (.tmp 64) 41 41 rfl U.heap.size 58 i0 (.int .u32 0) 1 4 Tryd.underlying41 hi hz0 hz1 hz2 rfl _ _ _ (by simp [Act.eval]) HO9.out.own _ _ _ (by simp [Act.eval]) HS9.out (by simp only [maxLen]; omega) (fits4 (by omega)) HO9.out.bel.size ?_
            intro v6 W10 o6 g6 _
            have HO6 := hid (HO9.out.grown ldP_col o6 g6)
            clear o6 g6 HO9 HS9 HW8
            refine hK.out _ _ HO6.out.bel (fun _ => ?_)
            clear hK K
            try simp only [Act.put, List.getElem_toArray, List.getElem_cons_zero, List.getElem_cons_succ, List.setIfInBounds_toArray, List.set_cons_zero, List.set_cons_succ]
            refine wpAnyH_take (i := 11) (v := ?_) rfl (by kernel_rfl) (by kernel_rfl) (by kernel_rfl) (fun _ _ _ h => h) (Or.inl ⟨by kernel_rfl, ?hy11⟩) (by assumption) ?_
            case hy11 => (intro wI hSw; (try dsimp only at hSw); have k0 := (HI.out.on hSw).cell 0; have k5 := (HI.out.on hSw).cell 5; go_simp; try with_reducible rfl)
            try simp only [Act.put, List.getElem_toArray, List.getElem_cons_zero, List.getElem_cons_succ, List.setIfInBounds_toArray, List.set_cons_zero, List.set_cons_succ]
            refine wpAnyH_done (by kernel_rfl) ?_ _
            rw [← ldL_succ] at HO6
            go_wp2
            go_roundw
            case rel => exact ⟨c + 1, by go_num, by omega, by rw [HKK.out]; exact HO6.out⟩
            case measure => simp [numOf]; omega
          · have e2 : decide ((c : Int) < W) = false := decide_eq_false (by omega)
            obtain rfl : c = W := by omega
            go_wp2
            go_roundw
            case rel => exact ⟨j + 1, by go_num, by omega, by rw [Nat.add_mul, Nat.one_mul]; exact HO2.out⟩
            case measure => simp [numOf]; omega
      · have e1 : decide ((j : Int) < H) = false := decide_eq_false (by omega)
        obtain rfl : H = j := by omega
        rw [HNN.out] at HO
        obtain ⟨a9, c9, rfl, hR9, hn9⟩ := HO.out.rd
        have hl9 : (ldL B O S W fm N).length = N := ldL_length
        rw [hl9] at hR9 ⊢
        have HI9 := hid (HI.out.on HO.out.bel)
        have HM9 := hid (HM.out.on HO.out.bel)
        have HB9 := hid (HBU.out.trans (HO.out.bel.mono HBU.out.size))
        have HR9 := hid hR9
        have HN9 : Hid (∀ y, a9 = some y → U.heap.size ≤ y.block) := fun y hy => (hn9 y hy).1
        have hlU : w.heap.size + 1 < U.heap.size := by omega
        have t2 := HI9.out.cell 2
        have t3 := HI9.out.cell 3
        have f0 := HM9.out.fz
        have m0 := HM9.out.cell 0
        have m1 := HM9.out.cell 1
        have m2 := HM9.out.cell 2
        have m3 := HM9.out.cell 3
        have HG : Hid (∀ v0 v1 v2 v3 V, V = ((((wr.setCell ⟨w.heap.size + 1, 0, none⟩ v0).setCell ⟨w.heap.size + 1, 1, none⟩ v1).setCell ⟨w.heap.size + 1, 2, none⟩ v2).setCell ⟨w.heap.size + 1, 3, none⟩ v3) → R (.returned (.agg #[.int .i64 id, .int .i64 W, .int .i64 H, .slice a9 N c9])) V) := fun v0 v1 v2 v3 V hV => by
          have hk : Kp [w.heap.size + 1] wr V := by
            rw [hV]
            exact ((((Kp.refl [w.heap.size + 1] wr).set ⟨w.heap.size + 1, 0, none⟩ (by simp) v0).set ⟨w.heap.size + 1, 1, none⟩ (by simp) v1).set ⟨w.heap.size + 1, 2, none⟩ (by simp) v2).set ⟨w.heap.size + 1, 3, none⟩ (by simp) v3
          refine HF.out V a9 c9 (bel_kp HB9.out hk HB9.out.size fun k hk => ?_) (HR9.out.kp hk fun _ x hx hm => ?_) (fun y hy => by have := HN9.out y hy; omega)
          · rw [List.mem_singleton.1 hk]
            omega
          · have h1 := HN9.out x hx
            have h2 := List.mem_singleton.1 hm
            omega
        clear hR9 hn9
        go_wp2
        refine bodyPost_ret (results_cell_row rfl _ _ (w.heap.size + 1) _ _ _ _ rfl ((((HM9.out.set 0 _).set 1 _).set 2 _).set 3 _).obj Tryd.underlying43 rfl info_pim1) rfl ?_
        exact HG.out _ _ _ _ _ rfl
end Go.Proofs.YtpcepgecbdjdfaaDoor

/- Kind of an answer; what is read behind Set, Write and Set. -/
namespace Go.Proofs.YtpcepgecbdjdfaaDoor
open Go Go.RowKit

theorem keeps (b : List UInt8) (k n : Nat) (M : Nat) (hM : k + b.length ≤ M) (i : Nat) (hi : i < n) :
    (rsz (wro (rsz [] M) k b) n).getD i 0 = if k ≤ i ∧ i < k + b.length then b.getD (i - k) 0 else 0 := by
  have e0 : rsz [] M = List.replicate M (0 : UInt8) := by rw [rsz, List.take_nil, List.nil_append, List.length_nil, Nat.sub_zero]
  have hl : (wro (rsz [] M) k b).length = M := by rw [wro_length (by rw [rsz_length]; omega), rsz_length]
  have h1 : ∀ i, i < M → (wro (rsz [] M) k b).getD i 0 = if k ≤ i ∧ i < k + b.length then b.getD (i - k) 0 else 0 := fun i hi => by
    rw [e0, wro, List.take_replicate, List.drop_replicate, List.getD, List.getD]
    by_cases h1 : i < k
    · rw [List.append_assoc, List.getElem?_append_left (by rw [List.length_replicate]; omega), if_neg (by omega), List.getElem?_replicate, if_pos (by omega)]
      rfl
    · by_cases h2 : i < k + b.length
      · rw [List.append_assoc, List.getElem?_append_right (by rw [List.length_replicate]; omega), List.length_replicate, List.getElem?_append_left (by omega), if_pos (by omega), show i - min k M = i - k by omega]
      · rw [List.getElem?_append_right (by rw [List.length_append, List.length_replicate]; omega), if_neg (by omega), List.getElem?_replicate]
        split <;> rfl
  rw [rsz, List.getD]
  by_cases h : i < M
  · rw [List.getElem?_append_left (by rw [List.length_take, hl]; omega), List.getElem?_take_of_lt hi]
    have := h1 i h
    rw [List.getD] at this
    exact this
  · rw [List.getElem?_append_right (by rw [List.length_take, hl]; omega), if_neg (by omega), List.getElem?_replicate]
    split <;> rfl

theorem at_block {w : World} {g : Nat} {l : List UInt8} {e : TypeId} (h : w.heap[g]? = some (.cells (bc l).toArray e (0, 0))) (j : Nat) (hj : j < l.length) : w.cell? ⟨g, j, none⟩ = some (.int .u8 ((l.getD j 0).toNat : Nat)) := by
  rw [Lib.cell_of_heap h]
  simp [bc, List.getElem?_eq_getElem hj]
theorem Rd.at_ {w : World} {a : Option Addr} {n c : Nat} {l : List UInt8} (h : Rd w a n c l) (j : Nat) (hj : j < n) : ∃ b off, a = some ⟨b, off, none⟩ ∧ b < w.heap.size ∧ w.cell? ⟨b, off + j, none⟩ = some (.int .u8 ((l.getD j 0).toNat : Nat)) := by
  have hl := h.len
  obtain ⟨b, off, e, hb, hc⟩ := h.plain (by omega)
  refine ⟨b, off, e, hb, ?_⟩
  rw [hc j (by omega), List.getD, List.getElem?_eq_getElem (by omega)]
  rfl
end Go.Proofs.YtpcepgecbdjdfaaDoor

/- Numbers as four bytes each, one behind the other; no walk. -/
namespace Go.Proofs.YtpcepgecbdjdfaaDoor
open Go Go.RowKit

def w4 (z : Nat) : List UInt8 := [UInt8.ofNat (z % 256), UInt8.ofNat (z / 256 % 256), UInt8.ofNat (z / 65536 % 256), UInt8.ofNat (z / 16777216 % 256)]
def enc (zs : List Nat) : List UInt8 := zs.flatMap w4
theorem w4_length (z : Nat) : (w4 z).length = 4 := rfl
theorem enc_cons (z : Nat) (zs : List Nat) : enc (z :: zs) = w4 z ++ enc zs := by simp [enc]
theorem enc_append (a b : List Nat) : enc (a ++ b) = enc a ++ enc b := by simp [enc]
theorem enc_length (zs : List Nat) : (enc zs).length = 4 * zs.length := by
  induction zs with
  | nil => rfl
  | cons z zs ih => rw [enc_cons, List.length_append, ih, w4_length, List.length_cons]; omega

/-- Byte r of a number. -/
def dg (z r : Nat) : Nat := z / 256 ^ r % 256

theorem w4_get (z r : Nat) (hr : r < 4) : ((w4 z).getD r 0).toNat = dg z r := by
  match r, hr with
  | 0, _ => simp [w4, dg]
  | 1, _ => simp [w4, dg]
  | 2, _ => simp [w4, dg]
  | 3, _ => simp [w4, dg]

theorem enc_get : ∀ (zs : List Nat) (i r : Nat), r < 4 → i < zs.length → ((enc zs).getD (4 * i + r) 0).toNat = dg (zs.getD i 0) r
  | [], _, _, _, h => by simp at h
  | z :: zs, 0, r, hr, _ => by
    rw [enc_cons, List.getD, List.getElem?_append_left (by rw [w4_length]; omega), Nat.mul_zero, Nat.zero_add, ← List.getD]
    exact w4_get z r hr
  | z :: zs, i + 1, r, hr, h => by
    rw [enc_cons, List.getD, List.getElem?_append_right (by rw [w4_length]; omega), w4_length, show 4 * (i + 1) + r - 4 = 4 * i + r by omega, ← List.getD]
    rw [enc_get zs i r hr (by simpa using h)]
    rfl

theorem bt_enc (zs : List Nat) (i r : Nat) (hr : r < 4) (hi : i < zs.length) : bt (enc zs) ((4 * i + r : Nat) : Int) = dg (zs.getD i 0) r := by
  rw [bt, if_neg (by omega), Int.toNat_natCast]
  exact enc_get zs i r hr hi
theorem bt_end (zs : List Nat) (k : Nat) (h : 4 * zs.length ≤ k) : bt (enc zs) (k : Int) = 0 := bt_far _ _ (by rw [enc_length]; omega)

theorem dg_all (z : Nat) (h : z < 4294967296) : dg z 0 + dg z 1 * 256 + dg z 2 * 65536 + dg z 3 * 16777216 = z := by
  simp only [dg, Nat.pow_zero, Nat.div_one, Nat.pow_one, show (256 : Nat) ^ 2 = 65536 from rfl, show (256 : Nat) ^ 3 = 16777216 from rfl]
  omega
theorem dg_hi (z : Nat) (h : z < 4294967296) : dg z 2 + dg z 3 * 256 = z / 65536 := by
  simp only [dg, show (256 : Nat) ^ 2 = 65536 from rfl, show (256 : Nat) ^ 3 = 16777216 from rfl]
  omega
theorem dg_lo (z : Nat) : dg z 0 * 65536 + dg z 1 * 16777216 = z % 65536 * 65536 := by
  simp only [dg, Nat.pow_zero, Nat.div_one, Nat.pow_one]
  omega

theorem wd_enc (zs : List Nat) (i : Nat) (hi : i < zs.length) (h : zs.getD i 0 < 4294967296) : wd (enc zs) (4 * (i : Int)) = zs.getD i 0 := by
  have e0 := bt_enc zs i 0 (by omega) hi
  have e1 := bt_enc zs i 1 (by omega) hi
  have e2 := bt_enc zs i 2 (by omega) hi
  have e3 := bt_enc zs i 3 (by omega) hi
  rw [show ((4 * i + 0 : Nat) : Int) = 4 * (i : Int) by omega] at e0
  rw [show ((4 * i + 1 : Nat) : Int) = 4 * (i : Int) + 1 by omega] at e1
  rw [show ((4 * i + 2 : Nat) : Int) = 4 * (i : Int) + 2 by omega] at e2
  rw [show ((4 * i + 3 : Nat) : Int) = 4 * (i : Int) + 3 by omega] at e3
  rw [wd, e0, e1, e2, e3]
  exact dg_all _ h
theorem wd_half (zs : List Nat) (i : Nat) (hi : i < zs.length) (h : zs.getD i 0 < 4294967296) : wd (enc zs) (4 * (i : Int) + 2) = zs.getD i 0 / 65536 + (if i + 1 < zs.length then zs.getD (i + 1) 0 % 65536 * 65536 else 0) := by
  have e2 := bt_enc zs i 2 (by omega) hi
  have e3 := bt_enc zs i 3 (by omega) hi
  rw [show ((4 * i + 2 : Nat) : Int) = 4 * (i : Int) + 2 by omega] at e2
  rw [show ((4 * i + 3 : Nat) : Int) = 4 * (i : Int) + 2 + 1 by omega] at e3
  rw [wd, e2, e3, ← dg_hi _ h, Nat.add_assoc]
  congr 1
  split
  · rename_i h2
    have f0 := bt_enc zs (i + 1) 0 (by omega) h2
    have f1 := bt_enc zs (i + 1) 1 (by omega) h2
    rw [show ((4 * (i + 1) + 0 : Nat) : Int) = 4 * (i : Int) + 2 + 2 by omega] at f0
    rw [show ((4 * (i + 1) + 1 : Nat) : Int) = 4 * (i : Int) + 2 + 3 by omega] at f1
    rw [f0, f1]
    exact dg_lo _
  · have f0 := bt_end zs (4 * i + 4) (by omega)
    have f1 := bt_end zs (4 * i + 5) (by omega)
    rw [show ((4 * i + 4 : Nat) : Int) = 4 * (i : Int) + 2 + 2 by omega] at f0
    rw [show ((4 * i + 5 : Nat) : Int) = 4 * (i : Int) + 2 + 3 by omega] at f1
    rw [f0, f1]
theorem wd_ahead (zs : List Nat) (h : 0 < zs.length) : wd (enc zs) (-2) = zs.getD 0 0 % 65536 * 65536 := by
  have e0 := bt_enc zs 0 0 (by omega) h
  have e1 := bt_enc zs 0 1 (by omega) h
  have f0 : bt (enc zs) (-2) = 0 := rfl
  have f1 : bt (enc zs) (-2 + 1) = 0 := rfl
  rw [wd, f0, f1, show (-2 + 2 : Int) = ((4 * 0 + 0 : Nat) : Int) from rfl, show (-2 + 3 : Int) = ((4 * 0 + 1 : Nat) : Int) from rfl, e0, e1, Nat.zero_mul, Nat.zero_add]
  exact dg_lo _

/-- The first i are written, of n. -/
def wr4 (zs : List Nat) (i : Nat) : List UInt8 := enc (zs.take i) ++ List.replicate (4 * (zs.length - i)) 0
theorem wr4_length (zs : List Nat) (i : Nat) (hi : i ≤ zs.length) : (wr4 zs i).length = 4 * zs.length := by
  rw [wr4, List.length_append, enc_length, List.length_take, List.length_replicate]
  omega
theorem wr4_next (zs : List Nat) (i : Nat) (hi : i < zs.length) : wro (wr4 zs i) (4 * i) (w4 (zs.getD i 0)) = wr4 zs (i + 1) := by
  have hl : (enc (zs.take i)).length = 4 * i := by rw [enc_length, List.length_take]; omega
  have e : zs.take (i + 1) = zs.take i ++ [zs.getD i 0] := by
    rw [List.take_add_one, List.getD, List.getElem?_eq_getElem hi]
    rfl
  rw [wro, w4_length, wr4, wr4, e, enc_append, List.take_append_of_le_length (by omega), List.take_of_length_le (by omega), List.drop_append, List.drop_eq_nil_of_le (by omega), hl, List.nil_append, List.drop_replicate, enc_cons]
  rw [show enc [] = [] from rfl, List.append_nil]
  congr 2
  omega
theorem wr4_all (zs : List Nat) : wr4 zs zs.length = enc zs := by
  rw [wr4, List.take_of_length_le (Nat.le_refl _), Nat.sub_self]
  exact List.append_nil _
theorem wr4_none (zs : List Nat) : wr4 zs 0 = rsz [] (4 * zs.length) := by
  rw [wr4, rsz, List.take_zero, List.take_nil, List.length_nil, Nat.sub_zero, Nat.sub_zero]
  rfl

/-- A literal of four bytes. -/
theorem rd_w4 (w : World) (z : Nat) (b0 b1 b2 b3 : Int) (h0 : b0 = dg z 0) (h1 : b1 = dg z 1) (h2 : b2 = dg z 2) (h3 : b3 = dg z 3) (e : TypeId) (fr : Nat × Nat) : Rd (w.alloc (.cells #[.int .u8 b0, .int .u8 b1, .int .u8 b2, .int .u8 b3] e fr)) (some ⟨w.heap.size, 0, none⟩) 4 4 (w4 z) := by
  refine rd_lit w (w4 z) _ ?_ e fr (show 4 ≤ maxLen by decide)
  subst h0 h1 h2 h3
  simp [bc, w4, dg]
end Go.Proofs.YtpcepgecbdjdfaaDoor
