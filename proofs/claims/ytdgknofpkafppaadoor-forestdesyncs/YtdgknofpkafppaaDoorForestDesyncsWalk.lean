/- ForestDesyncs: for every number and every row of bools the call returns true; nothing that was there has turned. -/
import Derived.Test.YtdgknofpkafppaaDoorBh
import Derived.Test.YtdgknofpkafppaaDoorLibB
namespace Go.Proofs.YtdgknofpkafppaaDoor.forestDesyncs
open Go Go.RowKit

/-- The first surface, behind its commit. -/
def s1 : Sf := ⟨0, false, sq0, sq0, ⟨false, 0, [], [], false, true, [], false, [[0], [2]], [[2, 0, 0]]⟩⟩
def cq : Option Int → Sq
  | none => sq0
  | some v => { sq0 with at_ := true, buf := v }
/-- Both: whether the second is sync by itself, what it has cached, what it has. -/
def tw (s : Bool) (c : Option Int) (n : Int) : Fo := [(1, s1), (2, ⟨1, s, sq0, cq c, { sqA with buf := n }⟩)]
def fa : Fo := subFB (addF (addF [] 1) 2) 2 1
theorem f0 : addE [] 1 = 0 ∧ addE (addF [] 1) 2 = 0 ∧ subEB (addF (addF [] 1) 2) 2 1 = 0 ∧ hasE fa 1 = 0 ∧ (comB fa 1).2 = [1] := by decide
theorem f0' : (comB fa 1).1 = tw true none 0 := by rfl
theorem f1 (s : Bool) (c : Option Int) (n : Int) : unsE (tw s c n) 2 = 0 := rfl
theorem f2 (s on : Bool) (c : Option Int) (n : Int) : hasE (synF (tw s c n) 2 on) 2 = 0 := rfl
theorem f3 (s on : Bool) (c : Option Int) (n v : Int) : hasE (upd (synF (tw s c n) 2 on) 2 (attS v)) 2 = 0 := rfl
theorem f4 (s : Bool) (c : Option Int) (n v : Int) : comB (upd (synF (tw s c n) 2 true) 2 (attS v)) 2 = (tw true (some v) n, []) := by cases c <;> rfl
theorem f5 (s : Bool) (c : Option Int) (n v : Int) : comB (upd (synF (tw s c n) 2 false) 2 (attS v)) 2 = (tw false none v, [2]) := by cases c <;> rfl
theorem f6 (s : Bool) (c : Option Int) (n : Int) : ((gt (tw s c n) 2).map Sf.no).getD sq0 = { sqA with buf := n } := rfl
theorem f7 (s : Bool) (c : Option Int) (n : Int) : ((gt (tw s c n) 2).map Sf.ca).getD sq0 = cq c := rfl
theorem f8 (c : Option Int) : (cq c).buf = c.getD 0 := by cases c <;> rfl

theorem fldS1 (v0 v2 v3 v4 v5 v6 v7 v8 v9 : Value) (z : Int) (w : World) : (Instr.field 35 (.agg #[v0, .int .i64 z, v2, v3, v4, v5, v6, v7, v8, v9]) 1).run Tryd.prog w = .ok (.int .i64 z) w := by kernel_rfl

set_option maxRecDepth 100000 in
set_option maxHeartbeats 4000000 in
theorem core (b : Int) (a1 : Option Addr) (n1 c1 : Nat) (t : Nat → Bool) (w : World) (h1 : RdB w a1 n1 c1 t) (es : List Addr) (hE : Fe w es) :
    Calls Tryd.prog 4 #[.int .i64 b, .slice a1 n1 c1] w fun e w' => e = .returned (.bool true) ∧ Below w.heap.size w w' := by
  have hng := ng5 hE
  have CN := hid (pg_new (es := es) w w (Below.refl _ _) hE hng)
  have HE := hid hE
  have H1 := hid h1
  have hs := h1.small
  have CP : Hid (∀ z W, -9223372036854775808 ≤ z ∧ z ≤ 9223372036854775807 → _) := fun z W hz => place_any z 1000 hz (by omega) (by omega) W
  have AW : Hid (∀ W, Below w.heap.size w W → Calls Tryd.prog 17 #[] W fun e w' => e = .returned (.bool true) ∧ Below W.heap.size W w') := fun W hW => fawake_any W (HE.out.on hW) (Nat.le_trans hng hW.size)
  obtain ⟨x1, x2, x3, x4, x5⟩ := f0
  clear hE h1 hng
  go_enter Tryd.func4, Tryd.ntmps4
  go_wp2_with fail
  refine CN.out.mono ?_
  rintro e w2 ⟨p, rfl, hp2, -⟩
  have C1 := hid (hp2.add (by omega) 1 ⟨by decide, by decide⟩)
  rw [x1, erv0] at C1
  clear hp2 CN
  go_wp2_with fail
  refine C1.out.mono ?_
  rintro e w3 ⟨rfl, hp3⟩
  have C2 := hid (hp3.add (by omega) 2 ⟨by decide, by decide⟩)
  rw [x2, erv0] at C2
  clear hp3 C1
  go_wp2_with fail
  refine C2.out.mono ?_
  rintro e w4 ⟨rfl, hp4⟩
  have C3 := hid (hp4.sub (by omega) 2 1 ⟨by decide, by decide⟩ ⟨by decide, by decide⟩)
  rw [x3, erv0] at C3
  clear hp4 C2
  go_wp2_with fail
  refine C3.out.mono ?_
  rintro e w5 ⟨rfl, hp5⟩
  have hp5' : Pg es w w5 p (0 + 1 + 1 + 1) fa := hp5
  have C4 := hid (hp5'.com (by omega) 1 ⟨by decide, by decide⟩)
  rw [x4, erv0, x5, f0'] at C4
  clear hp5 hp5' C3
  go_wp2_with fail
  refine C4.out.mono ?_
  rintro e w6 ⟨va, vc, rfl, -, hp6⟩
  have HP6 := hid hp6
  clear hp6 C4 x1 x2 x3 x4 x5
  go_wp2
  go_loopw [8, 9, 10] (fun nn cc i wr => ∃ (j : Nat) (s : Bool) (c : Option Int) (n : Int), nn = .int .i64 n ∧ cc = .int .i64 (c.getD 0) ∧ i = .int .i64 j ∧ j ≤ 20 ∧ Pg es w wr p (4 + 3 * j) (tw s c n)) (fun _ _ i _ => 20 - (numOf i).toNat)
  case atStart => exact ⟨0, true, none, 0, rfl, rfl, rfl, by omega, HP6.out⟩
  case round =>
    obtain ⟨j, s, c, n, rfl, rfl, rfl, hj, hp⟩ := hrel
    have HP := hid hp
    clear hp HP6
    by_cases hgo : j < n1 ∧ j < 20
    · have e1 : decide ((j : Int) < n1) = true := decide_eq_true (by omega)
      have e2 : decide ((j : Int) < 20) = true := decide_eq_true (by omega)
      obtain ⟨q, hq⟩ : ∃ q, q = IntKind.i64.wrap (b + (j : Int)) := ⟨_, rfl⟩
      have hqb : -9223372036854775808 ≤ q ∧ q ≤ 9223372036854775807 := by rw [hq, IntKind.wrap_i64]; omega
      have C1 := hid (CP.out q wr hqb)
      have hpl := plc_lt q 1000 (by omega)
      generalize plc q 1000 = k at C1 hpl
      rw [show ((1000 : Nat) : Int) = 1000 by omega] at C1
      have e3 : IntKind.i64.wrap (1 + (k : Int)) = 1 + (k : Int) := by rw [IntKind.wrap_i64]; omega
      have hvb : Bt (1 + (k : Int)) := ⟨by omega, by omega⟩
      obtain ⟨bl, off, rfl, hbl, hcl⟩ := H1.out.pl (by omega)
      have HC := hid (hcl j hgo.1)
      have hjn : (j : Int) < n1 := by omega
      have C2 := hid (HP.out.syn (by omega) 2 ⟨by decide, by decide⟩ (t j))
      rw [f1, erv0] at C2
      have cl : wr.cell? ⟨bl, off + j, none⟩ = some (.bool (t j)) := by rw [HP.out.bel.cell hbl]; exact HC.out
      generalize t j = on at C2 cl HC
      have e0 : IntKind.i64.wrap (b + (j : Int)) = q := hq.symm
      clear hq hqb hcl HP CP
      go_wp2_with fail
      with_reducible refine C1.out.mono ?_
      rintro e w7 ⟨rfl, hw7⟩
      obtain rfl : wr = w7 := hw7.symm
      clear hw7 C1
      go_wp2_with fail
      refine C2.out.mono ?_
      rintro e w8 ⟨rfl, hp8⟩
      have C3 := hid (hp8.att (by omega) 2 (1 + (k : Int)) ⟨by decide, by decide⟩ hvb)
      rw [f2, erv0] at C3
      clear hp8 C2 cl
      go_wp2_with fail
      refine C3.out.mono ?_
      rintro e w9 ⟨rfl, hp9⟩
      have C4 := hid (hp9.com (by omega) 2 ⟨by decide, by decide⟩)
      rw [f3, erv0] at C4
      clear hp9 C3
      cases on with
      | true =>
        rw [f4] at C4
        go_wp2_with fail
        refine C4.out.mono ?_
        rintro e w10 ⟨va, vc, rfl, -, hp10⟩
        have cl : w10.cell? ⟨bl, off + j, none⟩ = some (.bool true) := by rw [hp10.bel.cell hbl]; exact HC.out
        have HP := hid hp10
        have C5 := hid (hp10.sno (by omega) 2 ⟨by decide, by decide⟩)
        rw [f6] at C5
        clear hp10 C4
        go_wp2_with fail
        refine C5.out.mono ?_
        rintro e w11 ⟨r, rfl, -, -, hr, hb11⟩
        have hn : r.buf = n := congrArg Sq.buf hr
        have HP11 := hid (HP.out.on hb11)
        have C6 := hid (HP11.out.sca (by omega) 2 ⟨by decide, by decide⟩)
        rw [f7] at C6
        clear hb11 HP C5 hr cl
        rw [hn]
        have hfl := fldS1
        go_wp2_with fail
        refine C6.out.mono ?_
        rintro e w12 ⟨r', rfl, -, -, hr, hb12⟩
        have hn' : r'.buf = 1 + (k : Int) := congrArg Sq.buf hr
        have HP12 := hid (HP11.out.on hb12)
        clear hb12 HP11 C6 hr
        rw [hn']
        go_wp2
        go_roundw
        case rel => exact ⟨j + 1, true, some (1 + (k : Int)), n, rfl, rfl, by go_num, by omega, HP12.out.mono (by omega)⟩
        case measure => simp [numOf]; omega
      | false =>
        rw [f5] at C4
        go_wp2_with fail
        refine C4.out.mono ?_
        rintro e w10 ⟨va, vc, rfl, -, hp10⟩
        have cl : w10.cell? ⟨bl, off + j, none⟩ = some (.bool false) := by rw [hp10.bel.cell hbl]; exact HC.out
        have HP := hid hp10
        have C5 := hid (hp10.sno (by omega) 2 ⟨by decide, by decide⟩)
        rw [f6] at C5
        clear hp10 C4
        go_wp2_with fail
        refine C5.out.mono ?_
        rintro e w11 ⟨r, rfl, -, -, hr, hb11⟩
        have hn : r.buf = 1 + (k : Int) := congrArg Sq.buf hr
        have HP11 := hid (HP.out.on hb11)
        have C6 := hid (HP11.out.sca (by omega) 2 ⟨by decide, by decide⟩)
        rw [f7] at C6
        clear hb11 HP C5 hr cl
        rw [hn]
        have hfl := fldS1
        go_wp2_with fail
        refine C6.out.mono ?_
        rintro e w12 ⟨r', rfl, -, -, hr, hb12⟩
        have hn' : r'.buf = 0 := congrArg Sq.buf hr
        have HP12 := hid (HP11.out.on hb12)
        clear hb12 HP11 C6 hr
        rw [hn']
        go_wp2
        go_roundw
        case rel => exact ⟨j + 1, false, none, 1 + (k : Int), rfl, rfl, by go_num, by omega, HP12.out.mono (by omega)⟩
        case measure => simp [numOf]; omega
    · have AWr := hid (AW.out wr HP.out.bel)
      have HB := hid HP.out.bel
      clear HP
      by_cases hjn : j < n1
      · have e1 : decide ((j : Int) < n1) = true := decide_eq_true (by omega)
        have e2 : decide ((j : Int) < 20) = false := decide_eq_false (by omega)
        go_wp2_with fail
        refine AWr.out.mono ?_
        rintro e w7 ⟨rfl, hb7⟩
        have HB7 := hid (Below.on HB.out hb7)
        clear hb7
        go_wp2
        go_ret
        exact ⟨rfl, HB7.out⟩
      · have e1 : decide ((j : Int) < n1) = false := decide_eq_false (by omega)
        go_wp2_with fail
        refine AWr.out.mono ?_
        rintro e w7 ⟨rfl, hb7⟩
        have HB7 := hid (Below.on HB.out hb7)
        clear hb7
        go_wp2
        go_ret
        exact ⟨rfl, HB7.out⟩

theorem walk (a0 : Int) (a1 : Option Addr) (n1 c1 : Nat) (t : Nat → Bool) (w : World) (_ : (Lit.int .i64 a0).wf = true) (h1 : RdB w a1 n1 c1 t) (hL : laidMetH Tryd.prog Rows.forestDesyncsRow.laid w) :
    Calls Tryd.prog 4 #[.int .i64 a0, .slice a1 n1 c1] w fun e w' => e = .returned (.bool true) ∧ Below w.heap.size w w' := by
  obtain ⟨es, hE⟩ := fe5 hL
  exact core a0 a1 n1 c1 t w h1 es hE
end Go.Proofs.YtdgknofpkafppaaDoor.forestDesyncs
