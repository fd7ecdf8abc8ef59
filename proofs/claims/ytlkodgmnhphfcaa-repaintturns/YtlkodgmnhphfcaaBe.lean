/- The contract of the program's bands. -/
import Derived.Test.YtlkodgmnhphfcaaBd
namespace Go.Proofs.Ytlkodgmnhphfcaa
open Go Go.RowKit

theorem step_append_own_src {P : Program} {ops : Array Oper} {o : Oper} {a : Act} {w : World} {K : Act → World → Prop} {Q : Exit → Act → World → Prop} {E : Prop}
    (hg : o.guard = none) (s x : Operand) (t tx : TypeId) (hop : o.op = .call { callee := .builtin .append, args := #[s, x], argTypes := #[t, tx] })
    (base : Nat) (e : TypeId) (i : TypeInfo) (z : Value) (size bytes : Nat) (ht : P.underlying t = some (.slice e)) (hi : P.info? e = some i) (hz : i.zero = some z)
    (hsize : i.size = size) (hby : i.bytes = bytes) (hzs : z.cells.size = size)
    (v : Value) (n : Nat) (xs : List Value) (hs : a.eval s = v) (hown : w.ownsRow base e size v n xs)
    (xv : Value) (m : Nat) (news : List Value) (hx : a.eval x = xv) (hsrc : Src P size tx xv m news w)
    (h63 : n + m ≤ maxLen) (hbytes : ∀ old, old < n + m → Builtin.nextslicecap (n + m) old * bytes ≤ 281474976710656) (hbase : base ≤ w.heap.size)
    (h : ∀ v' w', w'.ownsRow base e size v' (n + m) (xs ++ news) → w.grownBy w' v.ownBlock → K (a.put o.dst v') w') :
    if Region.wanted o (yielded ops a.tmps) = true then Oper.wp P o a w K Q else E := by
  have hw : Region.wanted o (yielded ops a.tmps) = true := by simp [Region.wanted, hg]
  rw [if_pos hw]
  obtain ⟨v', w', hr, h2, h3⟩ := run_append_own_src (P := P) w base t tx o.type e i z size bytes ht hi hz hsize hby hzs v n xs hown xv m news hsrc h63 hbytes hbase
  unfold Oper.wp
  simp [execOp, hop, resolve, invoke, builtin, hs, hx, hr, Result.andThen]
  exact h v' w' h2 h3

/-- A row in memory: its line and its edges. -/
structure Rw (u : World) (b o : Nat) (r : Int × List Int) : Prop where
  lt : b < u.heap.size
  c0 : u.cell? ⟨b, o, none⟩ = some (.int .i64 r.1)
  c1 : ∃ a c, u.cell? ⟨b, o + 1, none⟩ = some (.slice a r.2.length c) ∧ RdJ u a r.2.length c r.2

theorem Rw.on {w u : World} {b o : Nat} {r : Int × List Int} (h : Rw w b o r) (hb : Below w.heap.size w u) : Rw u b o r :=
  ⟨Nat.lt_of_lt_of_le h.lt hb.size, by rw [hb.cell h.lt]; exact h.c0, by
    obtain ⟨a, c, h1, h2⟩ := h.c1
    exact ⟨a, c, by rw [hb.cell h.lt]; exact h1, h2.on hb⟩⟩

/-- A slice of rows. -/
structure RdW (w : World) (a : Option Addr) (n c : Nat) (l : List (Int × List Int)) : Prop where
  len : l.length = n
  le : n ≤ c
  max : c ≤ maxLen
  hnil : a = none → c = 0
  pl : 0 < n → ∃ b off, a = some ⟨b, off, none⟩ ∧ b < w.heap.size ∧ ∀ j r, l[j]? = some r → Rw w b (off + j * 2) r
theorem RdW.on {w u : World} {a : Option Addr} {n c : Nat} {l : List (Int × List Int)} (h : RdW w a n c l) (hb : Below w.heap.size w u) : RdW u a n c l :=
  ⟨h.len, h.le, h.max, h.hnil, fun hn => by
    obtain ⟨b, off, e, h1, h2⟩ := h.pl hn
    exact ⟨b, off, e, Nat.lt_of_lt_of_le h1 hb.size, fun j r hr => (h2 j r hr).on hb⟩⟩
theorem RdW.small {w : World} {a : Option Addr} {n c : Nat} {l : List (Int × List Int)} (h : RdW w a n c l) : n ≤ 9223372036854775807 ∧ c ≤ 9223372036854775807 := by
  have h1 := h.le
  have h2 := h.max
  simp only [maxLen] at h2
  omega
theorem RdW.el {w : World} {a : Option Addr} {n c : Nat} {l : List (Int × List Int)} (h : RdW w a n c l) {j : Nat} (hj : j < n) : ∃ b off r, a = some ⟨b, off, none⟩ ∧ b < w.heap.size ∧ l[j]? = some r ∧ Rw w b (off + j * 2) r := by
  have hl := h.len
  obtain ⟨b, off, e, h1, h2⟩ := h.pl (by omega)
  have hr : l[j]? = some l[j] := List.getElem?_eq_getElem (by omega)
  exact ⟨b, off, _, e, h1, hr, h2 j _ hr⟩

/-- A row of rectangles of the call's own. -/
structure OwC (w u : World) (v : Value) (l : List Rc) : Prop where
  own : u.ownsRow w.heap.size 36 4 v l.length (rccs l)
  bel : Below w.heap.size w u
theorem OwC.on {w u u' : World} {v : Value} {l : List Rc} (h : OwC w u v l) (hb : Below u.heap.size u u') : OwC w u' v l := ⟨ownsRow_below h.own hb, Below.on h.bel hb⟩
theorem OwC.base {w w0 u : World} {v : Value} {l : List Rc} (h : OwC w u v l) (hb : Below w0.heap.size w0 w) : OwC w0 u v l := ⟨ownsRow_low h.own hb.size, Below.on hb h.bel⟩
theorem OwC.size {w u : World} {v : Value} {l : List Rc} (h : OwC w u v l) : w.heap.size ≤ u.heap.size := h.bel.size
theorem OwC.grown {w u u' : World} {v v' : Value} {l m : List Rc} (h : OwC w u v l) (o2 : u'.ownsRow w.heap.size 36 4 v' (l.length + m.length) (rccs l ++ rccs m)) (g : u.grownBy u' v.ownBlock) : OwC w u' v' (l ++ m) :=
  ⟨by rw [List.length_append, rccs_append]; exact o2, h.bel.grown g h.bel.size (fun k hk => (h.own.lt k hk).1)⟩
theorem OwC.nil (w : World) : OwC w w (.slice none 0 0) [] := ⟨World.ownsRow_nil _ _ _ _, Below.refl _ _⟩
theorem OwC.ret {w u : World} {v : Value} {l : List Rc} (h : OwC w u v l) (ok : ∀ r ∈ l, r.Ok) : Ret w l (.returned v) u := by
  obtain ⟨a, c, rfl, hr⟩ := rdc_of_owns h.own ok
  exact ⟨a, c, rfl, hr, h.bel⟩
theorem srcR (w : World) (r : Rc) : Src Try.prog 4 30 (.slice (some ⟨w.heap.size, 0, none⟩) 1 1) 1 (rccs [r]) (w.alloc (.cells #[.int .i64 r.x, .int .i64 r.y, .int .i64 r.w, .int .i64 r.h] 36)) :=
  Src.ofSlice (P := Try.prog) _ Try.underlying30 ⟨w.heap.size, 0, none⟩ 1 1 (rccs [r]) rfl (fun q u hu => by
    match q, hu with
    | 0, hu => cases hu; simp [Addr.add]
    | 1, hu => cases hu; simp [Addr.add]
    | 2, hu => cases hu; simp [Addr.add]
    | 3, hu => cases hu; simp [Addr.add]
    | q + 4, hu => simp [rccs, rcc] at hu) (rccs_one _)

/-- What the rows ahead of i are, with those of row i ahead of edge k. -/
theorem prs_snoc {y h : Int} {e : List Int} {k : Nat} {p q : Int} (hp : e[2 * k]? = some p) (hq : e[2 * k + 1]? = some q) : prs y h (e.take (2 * (k + 1))) = prs y h (e.take (2 * k)) ++ [⟨p, y, q - p, h⟩] := by
  have hl : 2 * k + 1 < e.length := (List.getElem?_eq_some_iff.1 hq).1
  rw [show 2 * (k + 1) = 2 * k + 1 + 1 by omega, List.take_add_one, List.take_add_one, hp, hq, List.append_assoc, prs_append _ (by rw [List.length_take]; omega)]
  rfl
theorem bnds_snoc {l : List (Int × List Int)} {i : Nat} {r s : Int × List Int} (hr : l[i]? = some r) (hs : l[i + 1]? = some s) : bnds (l.take (i + 1 + 1)) = bnds (l.take (i + 1)) ++ prs r.1 (s.1 - r.1) r.2 := by
  induction l generalizing i with
  | nil => simp at hr
  | cons x l ih =>
    cases l with
    | nil => simp at hs
    | cons z l =>
      cases i with
      | zero =>
        simp only [List.getElem?_cons_zero, List.getElem?_cons_succ, Option.some.injEq] at hr hs
        subst hr hs
        simp [bnds]
      | succ i =>
        rw [List.getElem?_cons_succ] at hr hs
        have ih' : bnds (z :: l.take (i + 1)) = bnds (z :: l.take i) ++ prs r.1 (s.1 - r.1) r.2 := ih hr hs
        show bnds (x :: z :: l.take (i + 1)) = bnds (x :: z :: l.take i) ++ _
        obtain ⟨y, e⟩ := x
        obtain ⟨y', e'⟩ := z
        rw [bnds, bnds, ih', List.append_assoc]

theorem prs_len (y h : Int) : ∀ e : List Int, (prs y h e).length ≤ e.length
  | [] => by simp [prs]
  | [_] => by simp [prs]
  | _ :: _ :: t => by rw [prs, List.length_cons, List.length_cons, List.length_cons]; have := prs_len y h t; omega
theorem bnds_len {M : Nat} : ∀ {l : List (Int × List Int)}, (∀ r ∈ l, r.2.length ≤ M) → (bnds l).length ≤ l.length * M
  | [], _ => by simp [bnds]
  | [_], _ => by simp [bnds]
  | (y, e) :: (y', e') :: t, h => by
    have h1 := h (y, e) (by simp)
    have h2 := bnds_len (l := (y', e') :: t) fun r hr => h r (by simp [hr])
    have h3 := prs_len y (y' - y) e
    rw [bnds, List.length_append, show ((y, e) :: (y', e') :: t).length = ((y', e') :: t).length + 1 from rfl, Nat.add_mul]
    simp only at h1
    omega

/-- A block of another type is not the row's. -/
theorem own_ne {u : World} {base e size n p : Nat} {v : Value} {xs : List Value} {cs : Array Value} {T : TypeId} (h : u.ownsRow base e size v n xs) (hp : u.heap[p]? = some (.cells cs T (0, 0))) (hT : T ≠ e) : some p ≠ v.ownBlock := by
  rcases h.2 with ⟨rfl, _⟩ | ⟨g, cap, cur, rfl, _, hg, _⟩
  · simp [Value.ownBlock]
  · intro e'
    simp only [Value.ownBlock, Option.some.injEq] at e'
    subst e'
    rw [hp] at hg
    simp only [Option.some.injEq, Obj.cells.injEq] at hg
    exact hT hg.2.1

/-- A row in a block of its own; and a number somewhere. -/
structure RB (u : World) (p : Nat) (y : Int) (v : Value) : Prop where
  obj : u.heap[p]? = some (.cells #[.int .i64 y, v] 82 (0, 0))
theorem RB.on {u u' : World} {p : Nat} {y : Int} {v : Value} (h : RB u p y v) (hb : Below u.heap.size u u') : RB u' p y v := ⟨by rw [hb.block p (Array.getElem?_eq_some_iff.1 h.obj).1]; exact h.obj⟩
theorem RB.all {u : World} {p : Nat} {y : Int} {v : Value} (h : RB u p y v) : u.cell? ⟨p, 0, none⟩ = some (.int .i64 y) ∧ u.cell? ⟨p, 1, none⟩ = some v ∧ True ∧ True := by
  refine ⟨?_, ?_, trivial, trivial⟩ <;> (rw [World.cell?, h.obj]; rfl)
structure CI (u : World) (b o : Nat) (y : Int) : Prop where
  lt : b < u.heap.size
  c : u.cell? ⟨b, o, none⟩ = some (.int .i64 y)
theorem CI.on {u u' : World} {b o : Nat} {y : Int} (h : CI u b o y) (hb : Below u.heap.size u u') : CI u' b o y := ⟨Nat.lt_of_lt_of_le h.lt hb.size, by rw [hb.cell h.lt]; exact h.c⟩
theorem CI.all {u : World} {b o : Nat} {y : Int} (h : CI u b o y) : u.cell? ⟨b, o, none⟩ = some (.int .i64 y) ∧ True ∧ True ∧ True := ⟨h.c, trivial, trivial, trivial⟩
theorem prs_two {y h : Int} {e : List Int} {k : Nat} {p q : Int} (h2 : k % 2 = 0) (hp : e[k]? = some p) (hq : e[k + 1]? = some q) : prs y h (e.take (k + 2)) = prs y h (e.take k) ++ [⟨p, y, q - p, h⟩] := by
  obtain ⟨m, rfl⟩ : ∃ m, k = 2 * m := ⟨k / 2, by omega⟩
  exact prs_snoc hp hq

set_option maxRecDepth 100000 in
set_option maxHeartbeats 2000000 in
theorem bands_any (a : Option Addr) (n c : Nat) (l : List (Int × List Int)) (w : World) (h : RdW w a n c l) (hev : ∀ r ∈ l, r.2.length % 2 = 0) (hlast : ∀ j r, l[j]? = some r → r.2 ≠ [] → j + 1 < l.length) (hy : ∀ r ∈ l, -16777216 ≤ r.1 ∧ r.1 ≤ 16777216) (hx : ∀ r ∈ l, ∀ x ∈ r.2, -16777216 ≤ x ∧ x ≤ 16777216) (hn : n ≤ 20000) (hm : ∀ r ∈ l, r.2.length ≤ 20000) :
    Calls Try.prog 68 #[.slice a n c] w fun e w' => ∃ v, e = .returned v ∧ OwC w w' v (bnds l) := by
  have H := hid h
  have HL := hid h.len
  have hs := h.small
  have HEV := hid hev
  have HLA := hid hlast
  have HY := hid hy
  have HX := hid hx
  have HM := hid hm
  obtain ⟨i0, hi, hz0, hz1, hz2⟩ := info3 infoC
  clear h hev hlast hy hx hm
  go_enter Try.func68, Try.ntmps68
  go_wp2
  go_loopw [3, 11] (fun v x wr => ∃ i : Nat, x = .int .i64 i ∧ i ≤ n ∧ OwC w wr v (bnds (l.take (i + 1)))) (fun _ x _ => n - (numOf x).toNat)
  case atStart =>
    refine ⟨0, rfl, by omega, ?_⟩
    have : bnds (l.take (0 + 1)) = [] := by
      cases l with
      | nil => rfl
      | cons x l => rfl
    rw [this]
    exact OwC.nil w
  case round =>
    obtain ⟨i, rfl, hin, hO⟩ := hrel
    have HO := hid hO
    clear hO
    by_cases hgo : i < n
    · have e1 : decide ((i : Int) < n) = true := decide_eq_true (by omega)
      obtain ⟨b, off, r, rfl, _, hr, hw0⟩ := H.out.el hgo
      obtain ⟨ae, ce, hc1, hre⟩ := hw0.c1
      have c0 := hw0.c0
      have hlt := hw0.lt
      rw [← HO.out.bel.cell hlt] at c0 hc1
      have HR := hid hr
      have HRE := hid hre
      have hsm := hre.small
      obtain ⟨ry, re⟩ := r
      simp only at c0 hc1 HRE hsm
      have hmem := List.mem_of_getElem? hr
      have hy1 := HY.out _ hmem
      have hev1 := HEV.out _ hmem
      have hm1 := HM.out _ hmem
      have HX1 := hid (HX.out _ hmem)
      simp only at hy1 hev1 hm1 HX1
      have HN : Hid (∃ hh, (bnds (l.take (i + 1 + 1)) = bnds (l.take (i + 1)) ++ prs ry hh re) ∧ (re ≠ [] → ∃ s, l[i + 1]? = some s ∧ i + 1 < n ∧ hh = s.1 - ry)) := by
        rw [Hid]
        by_cases he : i + 1 < l.length
        · exact ⟨_, bnds_snoc hr (List.getElem?_eq_getElem he), fun _ => ⟨_, List.getElem?_eq_getElem he, by rw [← HL.out]; exact he, rfl⟩⟩
        · have hre0 : re = [] := Classical.byContradiction fun hne => he (HLA.out i _ hr hne)
          refine ⟨0, ?_, fun hne => absurd hre0 hne⟩
          rw [hre0, List.take_of_length_le (by omega), List.take_of_length_le (by omega)]
          simp [prs]
      obtain ⟨hh, hb1, hb2⟩ := HN.out
      have HB1 := hid hb1
      have HB2 := hid hb2
      have HBL : Hid (∀ m, (bnds (l.take (i + 1)) ++ prs ry hh (re.take m)).length ≤ 600000000) := fun m => by
        rw [List.length_append]
        have h1 := bnds_len (M := 20000) (l := l.take (i + 1)) fun r hr => HM.out r (List.mem_of_mem_take hr)
        have h2 := prs_len ry hh (re.take m)
        rw [List.length_take] at h1 h2
        have h3 : min (i + 1) l.length * 20000 ≤ 20001 * 20000 := Nat.mul_le_mul_right _ (by omega)
        omega
      clear hb1 hb2 hr hre hw0 HN hmem
      generalize bnds (l.take (i + 1)) = B0 at HO HB1 HBL
      go_wp2
      have HBX : Hid (RB (wr.alloc (.cells #[.int .i64 ry, .slice ae re.length ce] 82)) wr.heap.size ry (.slice ae re.length ce)) := ⟨heap_alloc_new wr _⟩
      have HO1 := hid (HO.out.on (below_new wr (.cells #[.int .i64 ry, .slice ae re.length ce] 82)))
      obtain ⟨P, hP⟩ : ∃ P, P = wr.heap.size := ⟨_, rfl⟩
      rw [← hP] at HBX ⊢
      generalize wr.alloc (.cells #[.int .i64 ry, .slice ae re.length ce] 82) = w1 at HBX HO1 ⊢
      clear HO hP c0 hc1
      go_loopw [3, 6] (fun v x wi => ∃ k : Nat, x = .int .i64 k ∧ k % 2 = 0 ∧ k ≤ re.length ∧ RB wi P ry (.slice ae re.length ce) ∧ OwC w wi v (B0 ++ prs ry hh (re.take k))) (fun _ x _ => re.length - (numOf x).toNat)
      case atStart => exact ⟨0, rfl, rfl, by omega, HBX.out, by rw [List.take_zero, show prs ry hh [] = [] from rfl, List.append_nil]; exact HO1.out⟩
      case round =>
        obtain ⟨k, rfl, hk2, hkl, hbx, hO⟩ := hrel
        have HBX2 := hid hbx
        have HO2 := hid hO
        obtain ⟨t0, t1, _, _⟩ := hbx.all
        clear hbx hO HBX HO1
        by_cases hgo2 : k < re.length
        · have e2 : decide ((k : Int) < re.length) = true := decide_eq_true (by omega)
          have hk1 : k + 1 < re.length := by omega
          have hk3 : (k : Int) < re.length := by omega
          have hk4 : (k : Int) + 1 < re.length := by omega
          obtain ⟨be, oe, rfl, hbe, hce⟩ := (HRE.out.on HO2.out.bel).pl (by omega)
          obtain ⟨p, hp⟩ : ∃ p, re[k]? = some p := ⟨_, List.getElem?_eq_getElem hgo2⟩
          obtain ⟨q, hq⟩ : ∃ q, re[k + 1]? = some q := ⟨_, List.getElem?_eq_getElem hk1⟩
          have d0 := hce k p hp
          have d1 := hce (k + 1) q hq
          obtain ⟨s, hsi, hi1, hhs⟩ := HB2.out (fun e => by rw [e] at hgo2; simp at hgo2)
          obtain ⟨b', off', s', hbo, _, hs', hws⟩ := (H.out.on HO2.out.bel).el hi1
          simp only [Option.some.injEq, Addr.mk.injEq, and_true] at hbo
          obtain ⟨rfl, rfl⟩ := hbo
          rw [hsi] at hs'
          cases hs'
          have HCI : Hid (CI wr b (off + (i + 1) * 2) s.1) := ⟨hws.lt, hws.c0⟩
          have HCP : Hid (CI wr be (oe + k) p) := ⟨hbe, d0⟩
          have HCQ : Hid (CI wr be (oe + (k + 1)) q) := ⟨hbe, d1⟩
          have hsy := HY.out s (List.mem_of_getElem? hsi)
          have hpx := HX1.out p (List.mem_of_getElem? hp)
          have hqx := HX1.out q (List.mem_of_getElem? hq)
          have HSN := hid (prs_two (y := ry) (h := hh) hk2 hp hq)
          have f1 : IntKind.i64.wrap (q - p) = q - p := by rw [IntKind.wrap_i64]; omega
          have f2 : IntKind.i64.wrap (s.1 - ry) = hh := by rw [IntKind.wrap_i64, hhs]; omega
          have f3 : IntKind.i64.wrap ((k : Int) + 1) = (k : Int) + 1 := by rw [IntKind.wrap_i64]; omega
          have f4 : IntKind.i64.wrap ((i : Int) + 1) = (i : Int) + 1 := by rw [IntKind.wrap_i64]; omega
          have f5 : (i : Int) + 1 < n := by omega
          have f6 : (0 : Int) ≤ (i : Int) + 1 := by omega
          have f7 : (0 : Int) ≤ (k : Int) + 1 := by omega
          have HLEN := HBL.out k
          clear hce hp hq hsi hws hhs
          go_upto_region 8 with fail
          clear t0 t1 d0 d1
          go_cut [7, 8] from 16 to 52 (fun x y wx => x = .int .i64 p ∧ y = .int .i64 q ∧ RowKit.Below wr.heap.size wr wx)
          case first =>
            refine wp_region_held_drew (S := fun x => Below wr.heap.size wr x) (by kernel_rfl) (Below.refl _ _).drew (fun hHeld => ?_)
            have hHeld : Below wr.heap.size wr wr.drew := hHeld
            refine wpAnyH_take (i := 0) (v := ?_) rfl (by kernel_rfl) (by kernel_rfl) (by kernel_rfl) (fun _ _ _ h => h) (Or.inl ⟨by kernel_rfl, ?hy0⟩) (by assumption) ?_
            case hy0 => (intro w hSw; (try dsimp only at hSw); obtain ⟨t00, t01, t02, t03⟩ := (HBX2.out.on hSw).all; obtain ⟨t10, t11, t12, t13⟩ := (HCP.out.on hSw).all; obtain ⟨t20, t21, t22, t23⟩ := (HCQ.out.on hSw).all; go_simp; try with_reducible rfl)
            try simp only [Act.put, List.getElem_toArray, List.getElem_cons_zero, List.setIfInBounds_toArray, List.set_cons_zero, List.set_cons_succ]
            refine wpAnyH_take (i := 1) (v := ?_) rfl (by kernel_rfl) (by kernel_rfl) (by kernel_rfl) (fun _ _ _ h => h) (Or.inl ⟨by kernel_rfl, ?hy1⟩) (by assumption) ?_
            case hy1 => (intro w hSw; (try dsimp only at hSw); obtain ⟨t00, t01, t02, t03⟩ := (HBX2.out.on hSw).all; obtain ⟨t10, t11, t12, t13⟩ := (HCP.out.on hSw).all; obtain ⟨t20, t21, t22, t23⟩ := (HCQ.out.on hSw).all; go_simp; try with_reducible rfl)
            try simp only [Act.put, List.getElem_toArray, List.getElem_cons_zero, List.getElem_cons_succ, List.setIfInBounds_toArray, List.set_cons_zero, List.set_cons_succ]
            refine wpAnyH_take (i := 2) (v := ?_) rfl (by kernel_rfl) (by kernel_rfl) (by kernel_rfl) (fun _ _ _ h => h) (Or.inl ⟨by kernel_rfl, ?hy2⟩) (by assumption) ?_
            case hy2 => (intro w hSw; (try dsimp only at hSw); obtain ⟨t00, t01, t02, t03⟩ := (HBX2.out.on hSw).all; obtain ⟨t10, t11, t12, t13⟩ := (HCP.out.on hSw).all; obtain ⟨t20, t21, t22, t23⟩ := (HCQ.out.on hSw).all; go_simp; try with_reducible rfl)
            try simp only [Act.put, List.getElem_toArray, List.getElem_cons_zero, List.getElem_cons_succ, List.setIfInBounds_toArray, List.set_cons_zero, List.set_cons_succ]
            refine wpAnyH_take (i := 3) (v := ?_) rfl (by kernel_rfl) (by kernel_rfl) (by kernel_rfl) (fun _ _ _ h => h) (Or.inl ⟨by kernel_rfl, ?hy3⟩) (by assumption) ?_
            case hy3 => (intro w hSw; (try dsimp only at hSw); obtain ⟨t00, t01, t02, t03⟩ := (HBX2.out.on hSw).all; obtain ⟨t10, t11, t12, t13⟩ := (HCP.out.on hSw).all; obtain ⟨t20, t21, t22, t23⟩ := (HCQ.out.on hSw).all; go_simp; try with_reducible rfl)
            try simp only [Act.put, List.getElem_toArray, List.getElem_cons_zero, List.getElem_cons_succ, List.setIfInBounds_toArray, List.set_cons_zero, List.set_cons_succ]
            refine wpAnyH_take (i := 4) (v := ?_) rfl (by kernel_rfl) (by kernel_rfl) (by kernel_rfl) (fun _ _ _ h => h) (Or.inl ⟨by kernel_rfl, ?hy4⟩) (by assumption) ?_
            case hy4 => (intro w hSw; (try dsimp only at hSw); obtain ⟨t00, t01, t02, t03⟩ := (HBX2.out.on hSw).all; obtain ⟨t10, t11, t12, t13⟩ := (HCP.out.on hSw).all; obtain ⟨t20, t21, t22, t23⟩ := (HCQ.out.on hSw).all; go_simp; try with_reducible rfl)
            try simp only [Act.put, List.getElem_toArray, List.getElem_cons_zero, List.getElem_cons_succ, List.setIfInBounds_toArray, List.set_cons_zero, List.set_cons_succ]
            refine wpAnyH_take (i := 5) (v := ?_) rfl (by kernel_rfl) (by kernel_rfl) (by kernel_rfl) (fun _ _ _ h => h) (Or.inl ⟨by kernel_rfl, ?hy5⟩) (by assumption) ?_
            case hy5 => (intro w hSw; (try dsimp only at hSw); obtain ⟨t00, t01, t02, t03⟩ := (HBX2.out.on hSw).all; obtain ⟨t10, t11, t12, t13⟩ := (HCP.out.on hSw).all; obtain ⟨t20, t21, t22, t23⟩ := (HCQ.out.on hSw).all; go_simp; try with_reducible rfl)
            try simp only [Act.put, List.getElem_toArray, List.getElem_cons_zero, List.getElem_cons_succ, List.setIfInBounds_toArray, List.set_cons_zero, List.set_cons_succ]
            refine wpAnyH_take (i := 6) (v := ?_) rfl (by kernel_rfl) (by kernel_rfl) (by kernel_rfl) (fun _ _ _ h => h) (Or.inl ⟨by kernel_rfl, ?hy6⟩) (by assumption) ?_
            case hy6 => (intro w hSw; (try dsimp only at hSw); obtain ⟨t00, t01, t02, t03⟩ := (HBX2.out.on hSw).all; obtain ⟨t10, t11, t12, t13⟩ := (HCP.out.on hSw).all; obtain ⟨t20, t21, t22, t23⟩ := (HCQ.out.on hSw).all; go_simp; try with_reducible rfl)
            try simp only [Act.put, List.getElem_toArray, List.getElem_cons_zero, List.getElem_cons_succ, List.setIfInBounds_toArray, List.set_cons_zero, List.set_cons_succ]
            refine wpAnyH_take (i := 7) (v := ?_) rfl (by kernel_rfl) (by kernel_rfl) (by kernel_rfl) (fun _ _ _ h => h) (Or.inl ⟨by kernel_rfl, ?hy7⟩) (by assumption) ?_
            case hy7 => (intro w hSw; (try dsimp only at hSw); obtain ⟨t00, t01, t02, t03⟩ := (HBX2.out.on hSw).all; obtain ⟨t10, t11, t12, t13⟩ := (HCP.out.on hSw).all; obtain ⟨t20, t21, t22, t23⟩ := (HCQ.out.on hSw).all; go_simp; try with_reducible rfl)
            try simp only [Act.put, List.getElem_toArray, List.getElem_cons_zero, List.getElem_cons_succ, List.setIfInBounds_toArray, List.set_cons_zero, List.set_cons_succ]
            refine wpAnyH_take (i := 8) (v := ?_) rfl (by kernel_rfl) (by kernel_rfl) (by kernel_rfl) (fun _ _ _ h => h) (Or.inl ⟨by kernel_rfl, ?hy8⟩) (by assumption) ?_
            case hy8 => (intro w hSw; (try dsimp only at hSw); obtain ⟨t00, t01, t02, t03⟩ := (HBX2.out.on hSw).all; obtain ⟨t10, t11, t12, t13⟩ := (HCP.out.on hSw).all; obtain ⟨t20, t21, t22, t23⟩ := (HCQ.out.on hSw).all; go_simp; try with_reducible rfl)
            try simp only [Act.put, List.getElem_toArray, List.getElem_cons_zero, List.getElem_cons_succ, List.setIfInBounds_toArray, List.set_cons_zero, List.set_cons_succ]
            refine wpAnyH_take (i := 9) (v := ?_) rfl (by kernel_rfl) (by kernel_rfl) (by kernel_rfl) (fun _ _ _ h => h) (Or.inl ⟨by kernel_rfl, ?hy9⟩) (by assumption) ?_
            case hy9 => (intro w hSw; (try dsimp only at hSw); obtain ⟨t00, t01, t02, t03⟩ := (HBX2.out.on hSw).all; obtain ⟨t10, t11, t12, t13⟩ := (HCP.out.on hSw).all; obtain ⟨t20, t21, t22, t23⟩ := (HCQ.out.on hSw).all; go_simp; try with_reducible rfl)
            try simp only [Act.put, List.getElem_toArray, List.getElem_cons_zero, List.getElem_cons_succ, List.setIfInBounds_toArray, List.set_cons_zero, List.set_cons_succ]
            refine wpAnyH_take (i := 10) (v := ?_) rfl (by kernel_rfl) (by kernel_rfl) (by kernel_rfl) (fun _ _ _ h => h) (Or.inl ⟨by kernel_rfl, ?hy10⟩) (by assumption) ?_
            case hy10 => (intro w hSw; (try dsimp only at hSw); obtain ⟨t00, t01, t02, t03⟩ := (HBX2.out.on hSw).all; obtain ⟨t10, t11, t12, t13⟩ := (HCP.out.on hSw).all; obtain ⟨t20, t21, t22, t23⟩ := (HCQ.out.on hSw).all; go_simp; try with_reducible rfl)
            try simp only [Act.put, List.getElem_toArray, List.getElem_cons_zero, List.getElem_cons_succ, List.setIfInBounds_toArray, List.set_cons_zero, List.set_cons_succ]
            refine wpAnyH_take (i := 11) (v := ?_) rfl (by kernel_rfl) (by kernel_rfl) (by kernel_rfl) (fun _ _ _ h => h) (Or.inl ⟨by kernel_rfl, ?hy11⟩) (by assumption) ?_
            case hy11 => (intro w hSw; (try dsimp only at hSw); obtain ⟨t00, t01, t02, t03⟩ := (HBX2.out.on hSw).all; obtain ⟨t10, t11, t12, t13⟩ := (HCP.out.on hSw).all; obtain ⟨t20, t21, t22, t23⟩ := (HCQ.out.on hSw).all; go_simp; try with_reducible rfl)
            try simp only [Act.put, List.getElem_toArray, List.getElem_cons_zero, List.getElem_cons_succ, List.setIfInBounds_toArray, List.set_cons_zero, List.set_cons_succ]
            refine wpAnyH_take (i := 12) (v := ?_) rfl (by kernel_rfl) (by kernel_rfl) (by kernel_rfl) (fun _ _ _ h => h) (Or.inl ⟨by kernel_rfl, ?hy12⟩) (by assumption) ?_
            case hy12 => (intro w hSw; (try dsimp only at hSw); obtain ⟨t00, t01, t02, t03⟩ := (HBX2.out.on hSw).all; obtain ⟨t10, t11, t12, t13⟩ := (HCP.out.on hSw).all; obtain ⟨t20, t21, t22, t23⟩ := (HCQ.out.on hSw).all; go_simp; try with_reducible rfl)
            try simp only [Act.put, List.getElem_toArray, List.getElem_cons_zero, List.getElem_cons_succ, List.setIfInBounds_toArray, List.set_cons_zero, List.set_cons_succ]
            refine wpAnyH_done (by kernel_rfl) ?_ _
            go_wp2_with fail
            go_meet
            exact ⟨rfl, rfl, hHeld⟩
          case rest =>
            obtain ⟨rfl, rfl, hbc⟩ := hcut
            have HCI3 := hid (HCI.out.on hbc)
            have HBX3 := hid (HBX2.out.on hbc)
            have HO3 := hid (HO2.out.on hbc)
            clear HCI HBX2 HO2 HCP HCQ hbc
            go_upto_region 9 with fail
            have hO4 := HO3.out
            have hSD : RB wc.drew P ry (.slice (some ⟨be, oe, none⟩) re.length ce) ∧ CI wc.drew b (off + (i + 1) * 2) s.1 := ⟨⟨HBX3.out.obj⟩, ⟨HCI3.out.lt, HCI3.out.c⟩⟩
            have HSR := hid (srcR wc.drew ⟨p, ry, q - p, hh⟩)
            have HOA := hid (hO4.on (u' := wc.drew.alloc (.cells #[.int .i64 p, .int .i64 ry, .int .i64 (q - p), .int .i64 hh] 36)) ((Below.refl _ _).drew.alloc (Nat.le_refl _) _))
            have hSA : RB (wc.drew.alloc (.cells #[.int .i64 p, .int .i64 ry, .int .i64 (q - p), .int .i64 hh] 36)) P ry (.slice (some ⟨be, oe, none⟩) re.length ce) ∧ CI (wc.drew.alloc (.cells #[.int .i64 p, .int .i64 ry, .int .i64 (q - p), .int .i64 hh] 36)) b (off + (i + 1) * 2) s.1 := ⟨hSD.1.on (below_new _ _), hSD.2.on (below_new _ _)⟩
            clear hO4 HCI3 HBX3 HO3
            have hHeld := hSD
            refine wp_region_held_drew (S := fun x => RB x P ry (.slice (some ⟨be, oe, none⟩) re.length ce) ∧ CI x b (off + (i + 1) * 2) s.1) (by kernel_rfl) hHeld (fun _ => ?_)
            refine wpAnyH_take (i := 0) (v := ?_) rfl (by kernel_rfl) (by kernel_rfl) (by kernel_rfl) (fun _ _ _ h => h) (Or.inl ⟨by kernel_rfl, ?hy0⟩) (by assumption) ?_
            case hy0 => (intro w hSw; (try dsimp only at hSw); obtain ⟨t00, t01, t02, t03⟩ := (hSw.1).all; obtain ⟨t10, t11, t12, t13⟩ := (hSw.2).all; go_simp; try with_reducible rfl)
            try simp only [Act.put, List.getElem_toArray, List.getElem_cons_zero, List.setIfInBounds_toArray, List.set_cons_zero, List.set_cons_succ]
            refine wpAnyH_take (i := 1) (v := ?_) rfl (by kernel_rfl) (by kernel_rfl) (by kernel_rfl) (fun _ _ _ h => h) (Or.inl ⟨by kernel_rfl, ?hy1⟩) (by assumption) ?_
            case hy1 => (intro w hSw; (try dsimp only at hSw); obtain ⟨t00, t01, t02, t03⟩ := (hSw.1).all; obtain ⟨t10, t11, t12, t13⟩ := (hSw.2).all; go_simp; try with_reducible rfl)
            try simp only [Act.put, List.getElem_toArray, List.getElem_cons_zero, List.getElem_cons_succ, List.setIfInBounds_toArray, List.set_cons_zero, List.set_cons_succ]
            refine wpAnyH_take (i := 2) (v := ?_) rfl (by kernel_rfl) (by kernel_rfl) (by kernel_rfl) (fun _ _ _ h => h) (Or.inl ⟨by kernel_rfl, ?hy2⟩) (by assumption) ?_
            case hy2 => (intro w hSw; (try dsimp only at hSw); obtain ⟨t00, t01, t02, t03⟩ := (hSw.1).all; obtain ⟨t10, t11, t12, t13⟩ := (hSw.2).all; go_simp; try with_reducible rfl)
            try simp only [Act.put, List.getElem_toArray, List.getElem_cons_zero, List.getElem_cons_succ, List.setIfInBounds_toArray, List.set_cons_zero, List.set_cons_succ]
            refine wpAnyH_take (i := 3) (v := ?_) rfl (by kernel_rfl) (by kernel_rfl) (by kernel_rfl) (fun _ _ _ h => h) (Or.inl ⟨by kernel_rfl, ?hy3⟩) (by assumption) ?_
            case hy3 => (intro w hSw; (try dsimp only at hSw); obtain ⟨t00, t01, t02, t03⟩ := (hSw.1).all; obtain ⟨t10, t11, t12, t13⟩ := (hSw.2).all; go_simp; try with_reducible rfl)
            try simp only [Act.put, List.getElem_toArray, List.getElem_cons_zero, List.getElem_cons_succ, List.setIfInBounds_toArray, List.set_cons_zero, List.set_cons_succ]
            refine wpAnyH_take (i := 4) (v := ?_) rfl (by kernel_rfl) (by kernel_rfl) (by kernel_rfl) (fun _ _ _ h => h) (Or.inl ⟨by kernel_rfl, ?hy4⟩) (by assumption) ?_
            case hy4 => (intro w hSw; (try dsimp only at hSw); obtain ⟨t00, t01, t02, t03⟩ := (hSw.1).all; obtain ⟨t10, t11, t12, t13⟩ := (hSw.2).all; go_simp; try with_reducible rfl)
            try simp only [Act.put, List.getElem_toArray, List.getElem_cons_zero, List.getElem_cons_succ, List.setIfInBounds_toArray, List.set_cons_zero, List.set_cons_succ]
            refine wpAnyH_take (i := 5) (v := ?_) rfl (by kernel_rfl) (by kernel_rfl) (by kernel_rfl) (fun _ _ _ h => h) (Or.inl ⟨by kernel_rfl, ?hy5⟩) (by assumption) ?_
            case hy5 => (intro w hSw; (try dsimp only at hSw); obtain ⟨t00, t01, t02, t03⟩ := (hSw.1).all; obtain ⟨t10, t11, t12, t13⟩ := (hSw.2).all; go_simp; try with_reducible rfl)
            try simp only [Act.put, List.getElem_toArray, List.getElem_cons_zero, List.getElem_cons_succ, List.setIfInBounds_toArray, List.set_cons_zero, List.set_cons_succ]
            refine wpAnyH_take (i := 6) (v := ?_) rfl (by kernel_rfl) (by kernel_rfl) (by kernel_rfl) (fun _ _ _ h => h) (Or.inl ⟨by kernel_rfl, ?hy6⟩) (by assumption) ?_
            case hy6 => (intro w hSw; (try dsimp only at hSw); obtain ⟨t00, t01, t02, t03⟩ := (hSw.1).all; obtain ⟨t10, t11, t12, t13⟩ := (hSw.2).all; go_simp; try with_reducible rfl)
            try simp only [Act.put, List.getElem_toArray, List.getElem_cons_zero, List.getElem_cons_succ, List.setIfInBounds_toArray, List.set_cons_zero, List.set_cons_succ]
            refine wpAnyH_take (i := 7) (v := ?_) rfl (by kernel_rfl) (by kernel_rfl) (by kernel_rfl) (fun _ _ _ h => h) (Or.inl ⟨by kernel_rfl, ?hy7⟩) (by assumption) ?_
            case hy7 => (intro w hSw; (try dsimp only at hSw); obtain ⟨t00, t01, t02, t03⟩ := (hSw.1).all; obtain ⟨t10, t11, t12, t13⟩ := (hSw.2).all; go_simp; try with_reducible rfl)
            try simp only [Act.put, List.getElem_toArray, List.getElem_cons_zero, List.getElem_cons_succ, List.setIfInBounds_toArray, List.set_cons_zero, List.set_cons_succ]
            refine wpAnyH_take (i := 8) (v := ?_) rfl (by kernel_rfl) (by kernel_rfl) (by kernel_rfl) (fun _ _ _ h => h) (Or.inl ⟨by kernel_rfl, ?hy8⟩) (by assumption) ?_
            case hy8 => (intro w hSw; (try dsimp only at hSw); obtain ⟨t00, t01, t02, t03⟩ := (hSw.1).all; obtain ⟨t10, t11, t12, t13⟩ := (hSw.2).all; go_simp; try with_reducible rfl)
            try simp only [Act.put, List.getElem_toArray, List.getElem_cons_zero, List.getElem_cons_succ, List.setIfInBounds_toArray, List.set_cons_zero, List.set_cons_succ]
            refine wpAnyH_take (i := 9) (v := ?_) rfl (by kernel_rfl) (by kernel_rfl) (by kernel_rfl) (fun _ _ _ h => h) (Or.inl ⟨by kernel_rfl, ?hy9⟩) (by assumption) ?_
            case hy9 => (intro w hSw; (try dsimp only at hSw); obtain ⟨t00, t01, t02, t03⟩ := (hSw.1).all; obtain ⟨t10, t11, t12, t13⟩ := (hSw.2).all; go_simp; try with_reducible rfl)
            try simp only [Act.put, List.getElem_toArray, List.getElem_cons_zero, List.getElem_cons_succ, List.setIfInBounds_toArray, List.set_cons_zero, List.set_cons_succ]
            refine wpAnyH_take (i := 10) (v := ?_) rfl (by kernel_rfl) (by kernel_rfl) (by kernel_rfl) (fun _ _ _ h => h) (Or.inl ⟨by kernel_rfl, ?hy10⟩) (by assumption) ?_
            case hy10 => (intro w hSw; (try dsimp only at hSw); obtain ⟨t00, t01, t02, t03⟩ := (hSw.1).all; obtain ⟨t10, t11, t12, t13⟩ := (hSw.2).all; go_simp; try with_reducible rfl)
            try simp only [Act.put, List.getElem_toArray, List.getElem_cons_zero, List.getElem_cons_succ, List.setIfInBounds_toArray, List.set_cons_zero, List.set_cons_succ]
            refine wpAnyH_take (i := 11) (v := ?_) rfl (by kernel_rfl) (by kernel_rfl) (by kernel_rfl) (fun _ _ _ h => h) (Or.inl ⟨by kernel_rfl, ?hy11⟩) (by assumption) ?_
            case hy11 => (intro w hSw; (try dsimp only at hSw); obtain ⟨t00, t01, t02, t03⟩ := (hSw.1).all; obtain ⟨t10, t11, t12, t13⟩ := (hSw.2).all; go_simp; try with_reducible rfl)
            try simp only [Act.put, List.getElem_toArray, List.getElem_cons_zero, List.getElem_cons_succ, List.setIfInBounds_toArray, List.set_cons_zero, List.set_cons_succ]
            refine wpAnyH_take (i := 12) (v := ?_) rfl (by kernel_rfl) (by kernel_rfl) (by kernel_rfl) (fun _ _ _ h => h) (Or.inl ⟨by kernel_rfl, ?hy12⟩) (by assumption) ?_
            case hy12 => (intro w hSw; (try dsimp only at hSw); obtain ⟨t00, t01, t02, t03⟩ := (hSw.1).all; obtain ⟨t10, t11, t12, t13⟩ := (hSw.2).all; go_simp; try with_reducible rfl)
            try simp only [Act.put, List.getElem_toArray, List.getElem_cons_zero, List.getElem_cons_succ, List.setIfInBounds_toArray, List.set_cons_zero, List.set_cons_succ]
            refine wpAnyH_take (i := 13) (v := ?_) rfl (by kernel_rfl) (by kernel_rfl) (by kernel_rfl) (fun _ _ _ h => h) (Or.inl ⟨by kernel_rfl, ?hy13⟩) (by assumption) ?_
            case hy13 => (intro w hSw; (try dsimp only at hSw); obtain ⟨t00, t01, t02, t03⟩ := (hSw.1).all; obtain ⟨t10, t11, t12, t13⟩ := (hSw.2).all; go_simp; try with_reducible rfl)
            try simp only [Act.put, List.getElem_toArray, List.getElem_cons_zero, List.getElem_cons_succ, List.setIfInBounds_toArray, List.set_cons_zero, List.set_cons_succ]
            refine wpAnyH_take (i := 14) (v := ?_) rfl (by kernel_rfl) (by kernel_rfl) (by kernel_rfl) (fun _ _ _ h => h) (Or.inl ⟨by kernel_rfl, ?hy14⟩) (by assumption) ?_
            case hy14 => (intro w hSw; (try dsimp only at hSw); obtain ⟨t00, t01, t02, t03⟩ := (hSw.1).all; obtain ⟨t10, t11, t12, t13⟩ := (hSw.2).all; go_simp; try with_reducible rfl)
            try simp only [Act.put, List.getElem_toArray, List.getElem_cons_zero, List.getElem_cons_succ, List.setIfInBounds_toArray, List.set_cons_zero, List.set_cons_succ]
            refine wpAnyH_take (i := 15) (v := ?_) rfl (by kernel_rfl) (by kernel_rfl) (by kernel_rfl) (fun _ _ _ h => h) (Or.inl ⟨by kernel_rfl, ?hy15⟩) (by assumption) ?_
            case hy15 => (intro w hSw; (try dsimp only at hSw); obtain ⟨t00, t01, t02, t03⟩ := (hSw.1).all; obtain ⟨t10, t11, t12, t13⟩ := (hSw.2).all; go_simp; try with_reducible rfl)
            try simp only [Act.put, List.getElem_toArray, List.getElem_cons_zero, List.getElem_cons_succ, List.setIfInBounds_toArray, List.set_cons_zero, List.set_cons_succ]
            refine wpAnyH_take (i := 16) (v := ?_) rfl (by kernel_rfl) (by kernel_rfl) (by kernel_rfl) (fun _ _ _ h => h) (Or.inl ⟨by kernel_rfl, ?hy16⟩) (by assumption) ?_
            case hy16 => (intro w hSw; (try dsimp only at hSw); obtain ⟨t00, t01, t02, t03⟩ := (hSw.1).all; obtain ⟨t10, t11, t12, t13⟩ := (hSw.2).all; go_simp; try with_reducible rfl)
            try simp only [Act.put, List.getElem_toArray, List.getElem_cons_zero, List.getElem_cons_succ, List.setIfInBounds_toArray, List.set_cons_zero, List.set_cons_succ]
            refine wpAnyH_ready (rs := [17]) (by kernel_rfl) (by simp) ?_
            refine AllReadyH.cons rfl (fun K hK => ?_) AllReadyH.nil
            go_simp
            refine hK.out _ _ hSA (fun _ => ?_)
            clear hK K hHeld hSD
            have hHeld := hSA
            refine wpAnyH_ready (rs := [18]) (by kernel_rfl) (by simp) ?_
            refine AllReadyH.cons rfl (fun K hK => ?_) AllReadyH.nil
            refine step_append_own_src rfl (.tmp 34) (.tmp 51) 30 30 rfl w.heap.size 36 i0 (.agg #[.int .i64 0, .int .i64 0, .int .i64 0, .int .i64 0]) 4 32 Try.underlying30 hi hz0 hz1 hz2 rfl _ _ _ (by simp [Act.eval]) HOA.out.own _ 1 _ (by simp [Act.eval]) HSR.out (by simp only [maxLen]; omega) (fits32 (by omega)) HOA.out.size ?_
            intro v3 w3 o3 g3
            have HO5 := hid (HOA.out.grown (m := [⟨p, ry, q - p, hh⟩]) o3 g3)
            have HS5 : Hid (RB w3 P ry (.slice (some ⟨be, oe, none⟩) re.length ce) ∧ CI w3 b (off + (i + 1) * 2) s.1) := ⟨⟨by rw [g3.block P (Array.getElem?_eq_some_iff.1 hSA.1.obj).1 (own_ne HOA.out.own hSA.1.obj (by decide))]; exact hSA.1.obj⟩, ⟨Nat.lt_of_lt_of_le hSA.2.lt g3.size, by rw [World.cell?_of_block (w := wc.drew.alloc _) (a := ⟨b, _, none⟩) (g3.block b hSA.2.lt (fun e => by have := (HOA.out.own.lt b e.symm).1; omega))]; exact hSA.2.c⟩⟩
            clear o3 g3
            refine hK.out _ _ HS5.out (fun _ => ?_)
            clear hK K hHeld
            have hHeld := HS5.out
            refine wpAnyH_take (i := 19) (v := ?_) rfl (by kernel_rfl) (by kernel_rfl) (by kernel_rfl) (fun _ _ _ h => h) (Or.inl ⟨by kernel_rfl, ?hy19⟩) (by assumption) ?_
            case hy19 => (intro w hSw; (try dsimp only at hSw); obtain ⟨t00, t01, t02, t03⟩ := (hSw.1).all; obtain ⟨t10, t11, t12, t13⟩ := (hSw.2).all; go_simp; try with_reducible rfl)
            try simp only [Act.put, List.getElem_toArray, List.getElem_cons_zero, List.getElem_cons_succ, List.setIfInBounds_toArray, List.set_cons_zero, List.set_cons_succ]
            refine wpAnyH_done (by kernel_rfl) ?_ _
            have HE5 : Hid (OwC w w3 v3 (B0 ++ prs ry hh (re.take (k + 2)))) := by
              have := HO5.out
              rw [List.append_assoc, ← HSN.out] at this
              exact this
            go_wp2
            go_roundw
            case rel => exact ⟨k + 2, by go_num, by omega, by omega, HS5.out.1, HE5.out⟩
            case measure => simp [numOf]; omega
        · have e2 : decide ((k : Int) < re.length) = false := decide_eq_false (by omega)
          obtain rfl : k = re.length := by omega
          have HF := hid HO2.out
          rw [List.take_length, ← HB1.out] at HF
          clear HO2
          go_wp2
          go_roundw
          case rel => exact ⟨i + 1, by go_num, by omega, HF.out⟩
          case measure => simp [numOf]; omega
    · have e1 : decide ((i : Int) < n) = false := decide_eq_false (by omega)
      obtain rfl : i = n := by omega
      have HF := hid HO.out
      rw [List.take_of_length_le (by rw [HL.out]; omega)] at HF
      clear HO
      go_wp2
      go_ret
      exact ⟨_, rfl, HF.out⟩
end Go.Proofs.Ytlkodgmnhphfcaa

/- The contract of the program's combine. -/
namespace Go.Proofs.Ytlkodgmnhphfcaa
open Go Go.RowKit

theorem rows_last {E : Int → List Int} : ∀ (ys : List Int) (y0 : Int) (e : List Int), Turns E y0 e ys → E y0 = e → ∀ j r, ((y0, e) :: rows E e ys)[j]? = some r → r.2 ≠ [] → j + 1 < ((y0, e) :: rows E e ys).length
  | [], y0, e, h, he, j, r, hj, hr => by
    rw [rows] at hj
    cases j with
    | zero =>
      simp only [List.getElem?_cons_zero, Option.some.injEq] at hj
      subst hj
      exact absurd (he.symm.trans (h y0 (Int.le_refl _))) hr
    | succ j => simp at hj
  | y :: t, y0, e, h, he, j, r, hj, hr => by
    obtain ⟨h1, h2, h3⟩ := h
    rw [rows] at hj ⊢
    by_cases hh : E y = e
    · rw [if_pos hh] at hj ⊢
      exact rows_last t y0 e (Turns.on h1 h2 hh h3) he j r hj hr
    · rw [if_neg hh] at hj ⊢
      cases j with
      | zero => simp
      | succ j =>
        rw [List.getElem?_cons_succ] at hj
        have := rows_last t y (E y) h3 rfl j r hj hr
        rw [List.length_cons]
        omega
theorem rows_mem {E : Int → List Int} {r : Int × List Int} : ∀ {ys : List Int} {e : List Int}, r ∈ rows E e ys → r.1 ∈ ys ∧ r.2 = E r.1
  | [], e, h => by rw [rows] at h; cases h
  | y :: t, e, h => by
    rw [rows] at h
    split at h
    · obtain ⟨h1, h2⟩ := rows_mem h
      exact ⟨by simp [h1], h2⟩
    · rcases List.mem_cons.1 h with rfl | h
      · exact ⟨by simp, rfl⟩
      · obtain ⟨h1, h2⟩ := rows_mem h
        exact ⟨by simp [h1], h2⟩
theorem rows_length (E : Int → List Int) : ∀ (ys : List Int) (e : List Int), (rows E e ys).length ≤ ys.length
  | [], _ => by rw [rows]; simp
  | y :: t, e => by
    rw [rows]
    split
    · have := rows_length E t e; simp only [List.length_cons]; omega
    · have := rows_length E t (E y); simp only [List.length_cons]; omega

/-- Cells of rows. -/
def rwc : List (Int × List Int) → List Value → List Value
  | r :: R, v :: vs => .int .i64 r.1 :: v :: rwc R vs
  | _, _ => []
theorem rwc_length : ∀ {R : List (Int × List Int)} {vs : List Value}, vs.length = R.length → (rwc R vs).length = R.length * 2
  | [], _, _ => by simp [rwc]
  | _ :: _, [], h => by simp at h
  | r :: R, v :: vs, h => by
    have := rwc_length (R := R) (vs := vs) (by simpa using h)
    rw [rwc, List.length_cons, List.length_cons, this, List.length_cons]
    omega
theorem rwc_append : ∀ {R : List (Int × List Int)} {vs : List Value} (R' : List (Int × List Int)) (vs' : List Value), vs.length = R.length → rwc (R ++ R') (vs ++ vs') = rwc R vs ++ rwc R' vs'
  | [], [], _, _, _ => rfl
  | [], _ :: _, _, _, h => by simp at h
  | _ :: _, [], _, _, h => by simp at h
  | r :: R, v :: vs, R', vs', h => by
    rw [List.cons_append, List.cons_append, rwc, rwc_append R' vs' (by simpa using h), rwc]
    rfl
theorem rwc_at : ∀ {R : List (Int × List Int)} {vs : List Value} {j : Nat} {r : Int × List Int} {v : Value}, R[j]? = some r → vs[j]? = some v → (rwc R vs)[j * 2]? = some (.int .i64 r.1) ∧ (rwc R vs)[j * 2 + 1]? = some v
  | [], _, j, _, _, h, _ => by simp at h
  | _ :: _, [], j, _, _, _, h => by simp at h
  | x :: R, u :: vs, 0, r, v, h, h' => by
    simp only [List.getElem?_cons_zero, Option.some.injEq] at h h'
    subst h h'
    exact ⟨rfl, rfl⟩
  | x :: R, u :: vs, j + 1, r, v, h, h' => by
    rw [List.getElem?_cons_succ] at h h'
    obtain ⟨h1, h2⟩ := rwc_at h h'
    rw [rwc, show (j + 1) * 2 = j * 2 + 1 + 1 by omega]
    simp only [List.getElem?_cons_succ]
    exact ⟨h1, h2⟩

/-- Rows of the call's own. -/
structure OwW (w u : World) (v : Value) (R : List (Int × List Int)) (vs : List Value) : Prop where
  len : vs.length = R.length
  own : u.ownsRow w.heap.size 82 2 v R.length (rwc R vs)
  eds : ∀ (j : Nat) (r : Int × List Int) (x : Value), R[j]? = some r → vs[j]? = some x → u.ownsRow w.heap.size 3 1 x r.2.length (nums r.2)
  bel : Below w.heap.size w u
theorem OwW.on {w u u' : World} {v : Value} {R : List (Int × List Int)} {vs : List Value} (h : OwW w u v R vs) (hb : Below u.heap.size u u') : OwW w u' v R vs :=
  ⟨h.len, ownsRow_below h.own hb, fun j r x hr hx => ownsRow_below (h.eds j r x hr hx) hb, Below.on h.bel hb⟩
theorem OwW.nil (w : World) : OwW w w (.slice none 0 0) [] [] := ⟨rfl, World.ownsRow_nil _ _ _ _, fun j r x h => by simp at h, Below.refl _ _⟩

/-- A row of one type stays where one of another type grows. -/
theorem own_keep {u u' : World} {base base' e e' size size' n n' : Nat} {v v' : Value} {xs xs' : List Value} (h : u.ownsRow base e size v n xs) (h' : u.ownsRow base' e' size' v' n' xs') (hT : e ≠ e') (g : u.grownBy u' v'.ownBlock) : u'.ownsRow base e size v n xs := by
  refine h.kept g ?_
  rcases h.2 with ⟨rfl, _⟩ | ⟨q, cap, cur, rfl, _, hq, _⟩
  · exact .inl rfl
  · exact .inr (own_ne h' hq hT)

theorem OwW.rdw {w u : World} {v : Value} {R : List (Int × List Int)} {vs : List Value} (h : OwW w u v R vs) : ∃ a c, v = .slice a R.length c ∧ RdW u a R.length c R := by
  rcases h.own.2 with ⟨rfl, h0⟩ | ⟨g, cap, cur, rfl, hb, hg, hn, hm, _, _⟩
  · exact ⟨none, 0, by rw [h0], rfl, by omega, Nat.zero_le _, fun _ => rfl, fun h => absurd h (by omega)⟩
  · have hgl := h.own.lt g rfl
    refine ⟨some ⟨g, 0, none⟩, cap, rfl, rfl, hn, hm, (fun h => by cases h), fun _ => ⟨g, 0, rfl, hgl.2, fun j r hr => ?_⟩⟩
    have hj : j < R.length := (List.getElem?_eq_some_iff.1 hr).1
    have hjv : j < vs.length := by rw [h.len]; exact hj
    have hx : vs[j]? = some vs[j] := List.getElem?_eq_getElem hjv
    obtain ⟨g1, g2⟩ := rwc_at hr hx
    obtain ⟨a, c, hv, hrd⟩ := rdj_of_owns (h.eds j r _ hr hx)
    rw [Nat.zero_add]
    exact ⟨hgl.2, by rw [h.own.cellAt _ (by omega)]; exact g1, a, c, by rw [h.own.cellAt _ (by omega), g2, hv], hrd⟩

theorem infoW : (Try.prog.info? 82).map (fun i => (i.zero, i.size, i.bytes)) = some (some (.agg #[.int .i64 0, .slice none 0 0]), 2, 32) := by kernel_rfl
theorem srcW (w : World) (y : Int) (x : Value) (hx : x.oneCell' = true) : Src Try.prog 2 75 (.slice (some ⟨w.heap.size, 0, none⟩) 1 1) 1 [.int .i64 y, x] (w.alloc (.cells #[.int .i64 y, x] 82)) :=
  Src.ofSlice (P := Try.prog) _ Try.underlying75 ⟨w.heap.size, 0, none⟩ 1 1 [.int .i64 y, x] rfl (fun q u hu => by
    match q, hu with
    | 0, hu => cases hu; simp [Addr.add]
    | 1, hu => cases hu; simp [Addr.add]
    | q + 2, hu => simp at hu) (fun u hu => by
    simp only [List.mem_cons, List.not_mem_nil, or_false] at hu
    rcases hu with rfl | rfl
    · rfl
    · exact hx)

theorem OwW.push {w u u' : World} {v7 v11 v' : Value} {R : List (Int × List Int)} {vs : List Value} {E : List Int} {y : Int} (h7 : OwW w u v7 R vs) (h11 : OwJ w u v11 E)
    (o : u'.ownsRow w.heap.size 82 2 v' (R.length + 1) (rwc R vs ++ [.int .i64 y, v11])) (g : (u.alloc (.cells #[.int .i64 y, v11] 82)).grownBy u' v7.ownBlock) : OwW w u' v' (R ++ [(y, E)]) (vs ++ [v11]) ∧ OwJ w u' v11 E := by
  have hb := below_new u (.cells #[.int .i64 y, v11] 82)
  have h7' := h7.on hb
  have h11' := h11.on hb
  have bel : Below w.heap.size w u' := h11'.bel.grown g h11'.bel.size (fun k hk => (h7'.own.lt k hk).1)
  have keep : ∀ {x : Value} {n : Nat} {xs : List Value}, (u.alloc (.cells #[.int .i64 y, v11] 82)).ownsRow w.heap.size 3 1 x n xs → u'.ownsRow w.heap.size 3 1 x n xs := fun hx => own_keep hx h7'.own (by decide) g
  have hlen := h7.len
  refine ⟨⟨by simp [hlen], ?_, fun j r x hr hx => ?_, bel⟩, keep h11'.own, bel⟩
  · rw [rwc_append _ _ hlen, List.length_append]
    exact o
  · rcases Nat.lt_or_ge j R.length with hj | hj
    · rw [List.getElem?_append_left hj] at hr
      rw [List.getElem?_append_left (by omega)] at hx
      exact keep (h7'.eds j r x hr hx)
    · have hj' : j < (R ++ [(y, E)]).length := (List.getElem?_eq_some_iff.1 hr).1
      simp at hj'
      obtain rfl : j = R.length := by omega
      rw [List.getElem?_append_right (Nat.le_refl _), Nat.sub_self] at hr
      rw [List.getElem?_append_right (by omega), hlen, Nat.sub_self] at hx
      simp only [List.getElem?_cons_zero, Option.some.injEq] at hr hx
      subst hr hx
      exact keep h11'.own

set_option maxRecDepth 100000 in
set_option maxHeartbeats 1000000 in
theorem combine_any (a a' : Option Addr) (n c n' c' : Nat) (l m : List Rc) (g : Nat) (f : Bool → Bool → Bool) (w : World) (h : RdC w a n c l) (h' : RdC w a' n' c' m) (hl : Bands l) (hm : Bands m) (hf : f false false = false) (hg : Fn2 g f) (hn : n + n' ≤ 4096) :
    Calls Try.prog 56 #[.slice a n c, .slice a' n' c', .func (.func g) #[] #[]] w fun e w' => ∃ v, e = .returned v ∧ OwC w w' v (mk f l m) := by
  have H := hid h
  have H' := hid h'
  have HL := hid h.len
  have HL' := hid h'.len
  have KL := hid hl
  have KM := hid hm
  have HG := hid hg
  have HF := hid hf
  obtain ⟨i0, hi, hz0, hz1, hz2⟩ := info3 infoW
  have CH := hid (heights_any a a' n c n' c' l m w h h' hl.ck hm.ck (by omega) (by omega))
  obtain ⟨ys, hys⟩ : ∃ ys, ys = ysOf (l ++ m) := ⟨_, rfl⟩
  obtain ⟨E, hE⟩ : ∃ E : Int → List Int, E = fun y => mix f false false false (rowE l y) (rowE m y) := ⟨_, rfl⟩
  have HYS := hid hys
  have HE := hid hE
  have hyl : ys.length ≤ 8192 := by
    rw [hys]
    have := ys_length (l ++ m)
    rw [List.length_append, h.len, h'.len] at this
    omega
  rw [← hys] at CH
  clear h h' hl hm hg hf hys hE
  go_enter Try.func56, Try.ntmps56
  go_wp2_with fail
  refine CH.out.mono ?_
  rintro e w1 ⟨v1, rfl, hv1⟩
  obtain ⟨ay, cy, rfl, hry⟩ := rdj_of_owns hv1.own
  have HRY := hid hry
  have HB1 := hid hv1.bel
  have hys63 := hry.small
  clear hv1 hry CH
  go_wp2
  go_loopw [0, 1, 7, 8, 16] (fun s0 s1 s7 s8 s16 wr => ∃ (i : Nat) (l1 m1 : List Rc) (a1 : Option Addr) (c1 : Nat) (a2 : Option Addr) (c2 : Nat) (R : List (Int × List Int)) (vs : List Value) (e : List Int), s16 = .int .i64 i ∧ s0 = .slice a1 l1.length c1 ∧ s1 = .slice a2 m1.length c2 ∧ i ≤ ys.length ∧ RdC w a1 l1.length c1 l1 ∧ RdC w a2 m1.length c2 m1 ∧ (∀ x ∈ l1, x ∈ l) ∧ (∀ x ∈ m1, x ∈ m) ∧ l1.length ≤ n ∧ m1.length ≤ n' ∧ (∀ z ∈ ys.drop i, frm l1 z = frm l z ∧ frm m1 z = frm m z) ∧ R ++ rows E e (ys.drop i) = rows E [] ys ∧ OwW w1 wr s7 R vs ∧ OwJ w1 wr s8 e) (fun _ _ _ _ s16 _ => ys.length - (numOf s16).toNat)
  case atStart => exact ⟨0, l, m, a, c, a', c', [], [], [], rfl, by rw [HL.out], by rw [HL'.out], by omega, by rw [HL.out]; exact H.out, by rw [HL'.out]; exact H'.out, fun _ h => h, fun _ h => h, by rw [HL.out]; exact Nat.le_refl _, by rw [HL'.out]; exact Nat.le_refl _, fun _ _ => ⟨rfl, rfl⟩, rfl, OwW.nil w1, ⟨World.ownsRow_nil _ _ _ _, Below.refl _ _⟩⟩
  case round =>
    obtain ⟨i, l1, m1, a1, c1, a2, c2, R, vs, e, rfl, rfl, rfl, hi1, h0, h1, s0, s1, n0, n1, hfr, hR, h7, h8⟩ := hrel
    have H0 := hid h0
    have H1 := hid h1
    have S0 := hid s0
    have S1 := hid s1
    have HFR := hid hfr
    have HR := hid hR
    have H7 := hid h7
    have H8 := hid h8
    have HBL := hid h7.bel
    have HBW0 := hid (Below.on HB1.out h7.bel)
    clear h0 h1 s0 s1 hfr hR h7 h8
    by_cases hgo : i < ys.length
    · have e1 : decide ((i : Int) < ys.length) = true := decide_eq_true (by omega)
      obtain ⟨by_, oy, y, hay, _, hyi, cy0⟩ := (HRY.out.on HBL.out).el hgo
      have HDY := hid (drop_at hyi)
      have hyin : y ∈ ys.drop i := by rw [HDY.out]; simp
      obtain ⟨f0, f1⟩ := HFR.out y hyin
      have hyb : -16777216 ≤ y ∧ y ≤ 16777216 := ys_in (a := l ++ m) (ck_both KL.out.ck KM.out.ck) (by rw [← HYS.out]; exact List.mem_of_getElem? hyi)
      have C1 := hid (fun u hu => from_any a1 l1.length c1 l1 y w u H0.out hu (fun x hx => KL.out.ck x (S0.out x hx)))
      have C2 := hid (fun u hu => from_any a2 m1.length c2 m1 y w u H1.out hu (fun x hx => KM.out.ck x (S1.out x hx)))
      have HSUB : Hid ((∀ x ∈ frm l y, x ∈ l) ∧ (∀ x ∈ frm m y, x ∈ m) ∧ (frm l y).length ≤ n ∧ (frm m y).length ≤ n') := by
        refine ⟨fun x hx => (List.dropWhile_sublist _).mem hx, fun x hx => (List.dropWhile_sublist _).mem hx, ?_, ?_⟩
        · rw [← HL.out]; exact (List.dropWhile_sublist _).length_le
        · rw [← HL'.out]; exact (List.dropWhile_sublist _).length_le
      rw [f0] at C1
      rw [f1] at C2
      have HNX : Hid (∀ z ∈ ys.drop (i + 1), frm (frm l y) z = frm l z ∧ frm (frm m y) z = frm m z) := fun z hz => by
        have hlt : y < z := by
          have hp : (ys.drop i).Pairwise (· < ·) := by rw [HYS.out]; exact (ys_rise _).sublist (List.drop_sublist _ _)
          rw [HDY.out] at hp
          exact (List.pairwise_cons.1 hp).1 z hz
        exact ⟨frm_frm (by omega), frm_frm (by omega)⟩
      subst hay
      have hi3 : (i : Int) < ys.length := by omega
      clear hyi f0 f1 hyin
      go_wp2_with fail
      refine (C1.out _ HBW0.out).mono ?_
      rintro e w2 ⟨a3, c3, rfl, h3, q2, rfl⟩
      go_wp2_with fail
      refine (C2.out _ (below_drewN HBW0.out q2)).mono ?_
      rintro e w3 ⟨a4, c4, rfl, h4, q3, rfl⟩
      have H3 := hid h3
      have H4 := hid h4
      have HQ := hid (below_drewN (below_drewN (Below.refl wr.heap.size wr) q2) q3)
      clear h3 h4 C1 C2
      generalize (wr.drewN q2).drewN q3 = w3 at HQ ⊢
      have D1 := hid (fun u hu => edgesat_any a3 (frm l y).length c3 (frm l y) y u hu (fun x hx => KL.out.ck x (HSUB.out.1 x hx)) (by have := HSUB.out.2.2.1; omega))
      have D2 := hid (fun u hu => edgesat_any a4 (frm m y).length c4 (frm m y) y u hu (fun x hx => KM.out.ck x (HSUB.out.2.1 x hx)) (by have := HSUB.out.2.2.2; omega))
      rw [edg_row KL.out] at D1
      rw [edg_row KM.out] at D2
      go_wp2_with fail
      refine (D1.out _ (H3.out.on (Below.on HBW0.out HQ.out))).mono ?_
      rintro e w4 ⟨v4, rfl, h5⟩
      go_wp2_with fail
      refine (D2.out _ (H4.out.on (Below.on HBW0.out (Below.on HQ.out h5.bel)))).mono ?_
      rintro e w5 ⟨v5, rfl, h6⟩
      obtain ⟨a5, c5, rfl, r5⟩ := rdj_of_owns (h5.on h6.bel).own
      obtain ⟨a6, c6, rfl, r6⟩ := rdj_of_owns h6.own
      have HB5 := hid (Below.on HQ.out (Below.on h5.bel h6.bel))
      have CM := hid (mix_any a5 a6 (rowE l y).length c5 (rowE m y).length c6 (rowE l y) (rowE m y) g f w5 r5 r6 HG.out (by have := rowE_length l y; rw [HL.out] at this; omega) (by have := rowE_length m y; rw [HL'.out] at this; omega))
      have HEy : Hid (mix f false false false (rowE l y) (rowE m y) = E y) := by rw [HE.out]; rfl
      rw [HEy.out] at CM
      clear h5 h6 r5 r6 D1 D2
      go_wp2_with fail
      refine CM.out.mono ?_
      rintro e w6 ⟨v6, rfl, h7⟩
      obtain ⟨a7, c7, hv7, r7⟩ := rdj_of_owns h7.own
      have HB6 := hid (Below.on HB5.out h7.bel)
      have HV6 := hid (h7.base (Below.on H7.out.bel HB5.out))
      clear CM HB5
      have H8' := hid (H8.out.on HB6.out)
      have H7' := hid (H7.out.on HB6.out)
      obtain ⟨a8, c8, hv8, r8⟩ := rdj_of_owns H8'.out.own
      subst hv7
      subst hv8
      have CE := hid (equal_any a7 a8 (E y).length c7 e.length c8 (E y) e w6 r7 r8)
      clear r7 r8 h7
      have HRR : Hid (rows E e (ys.drop i) = if E y = e then rows E e (ys.drop (i + 1)) else (y, E y) :: rows E (E y) (ys.drop (i + 1))) := by rw [Hid, HDY.out, rows]
      have hRl : R.length ≤ 8192 := by
        have := congrArg List.length HR.out
        rw [List.length_append] at this
        have h2 := rows_length E ys []
        omega
      cases hq : eqi (E y) e
      · rw [hq] at CE
        have hne : E y ≠ e := by simpa [eqi] using hq
        have HR2 : Hid ((R ++ [(y, E y)]) ++ rows E (E y) (ys.drop (i + 1)) = rows E [] ys) := by
          have := HR.out
          rw [HRR.out, if_neg hne] at this
          rw [Hid, ← this, List.append_assoc]
          rfl
        clear hne HRR HR
        go_wp2_with fail
        refine CE.out.mono ?_
        rintro e9 w7 ⟨rfl, q7, rfl⟩
        have HQ7 := below_drewN (Below.refl w6.heap.size w6) q7
        have G7 := hid (H7'.out.on HQ7)
        have G8 := hid (HV6.out.on HQ7)
        clear CE H7' H8' HV6 HQ7
        generalize w6.drewN q7 = w7 at G7 G8 ⊢
        have HOW := hid ((G7.out.on (below_new w7 (.cells #[.int .i64 y, .slice a7 (E y).length c7] 82))).own)
        have HSZ := (G7.out.on (below_new w7 (.cells #[.int .i64 y, .slice a7 (E y).length c7] 82))).bel.size
        have HSR := hid (srcW w7 y (.slice a7 (E y).length c7) rfl)
        have HA : Hid (∀ v' w', w'.ownsRow w1.heap.size 82 2 v' (R.length + 1) (rwc R vs ++ [.int .i64 y, .slice a7 (E y).length c7]) → (w7.alloc (.cells #[.int .i64 y, .slice a7 (E y).length c7] 82)).grownBy w' u7.ownBlock → OwW w1 w' v' (R ++ [(y, E y)]) (vs ++ [.slice a7 (E y).length c7]) ∧ OwJ w1 w' (.slice a7 (E y).length c7) (E y)) := fun v' w' o g' => G7.out.push G8.out o g'
        go_wp2_with (at_builtin; refine wpList_append_own_src _ rfl (.tmp 38) (.tmp 42) 75 75 rfl w1.heap.size 82 i0 (.agg #[.int .i64 0, .slice none 0 0]) 2 32 Try.underlying75 hi hz0 hz1 hz2 rfl _ _ _ rfl HOW.out _ _ _ rfl HSR.out (by simp only [maxLen]; omega) (fits32 (by omega)) HSZ ?_; intro v9 w9 o9 g9; have H9 := hid (HA.out _ _ o9 g9); clear o9 g9 HA HOW HSR HSZ)
        go_wp2
        go_roundw
        case rel => exact ⟨i + 1, frm l y, frm m y, a3, c3, a4, c4, R ++ [(y, E y)], vs ++ [.slice a7 (E y).length c7], E y, by go_num, rfl, rfl, by omega, H3.out, H4.out, HSUB.out.1, HSUB.out.2.1, HSUB.out.2.2.1, HSUB.out.2.2.2, HNX.out, HR2.out, H9.out.1, H9.out.2⟩
        case measure => simp [numOf]; omega
      · rw [hq] at CE
        have hne : E y = e := by simpa [eqi] using hq
        have HR2 : Hid (R ++ rows E e (ys.drop (i + 1)) = rows E [] ys) := by
          have := HR.out
          rw [HRR.out, if_pos hne] at this
          exact this
        clear hne HRR HR
        go_wp2_with fail
        refine CE.out.mono ?_
        rintro e9 w7 ⟨rfl, q7, rfl⟩
        have HQ7 := below_drewN (Below.refl w6.heap.size w6) q7
        have G7 := hid (H7'.out.on HQ7)
        have G8 := hid (H8'.out.on HQ7)
        clear CE H7' H8' HV6 HQ7
        generalize w6.drewN q7 = w7 at G7 G8 ⊢
        go_wp2
        go_roundw
        case rel => exact ⟨i + 1, frm l y, frm m y, a3, c3, a4, c4, R, vs, e, by go_num, rfl, rfl, by omega, H3.out, H4.out, HSUB.out.1, HSUB.out.2.1, HSUB.out.2.2.1, HSUB.out.2.2.2, HNX.out, HR2.out, G7.out, G8.out⟩
        case measure => simp [numOf]; omega
    · have e1 : decide ((i : Int) < ys.length) = false := decide_eq_false (by omega)
      have HR2 : Hid (R = rows E [] ys) := by
        have := HR.out
        rw [List.drop_eq_nil_of_le (by omega), rows, List.append_nil] at this
        exact this
      obtain ⟨a9, c9, hv9, r9⟩ := H7.out.rdw
      have HEL : Hid (∀ z, E z = lin f l m z) := fun z => by rw [HE.out]; exact mix_lin HF.out KL.out KM.out z
      have HED := hid (lin_edges HF.out KL.out.ck KM.out.ck)
      have HT : Hid (Turns E (-16777217) [] ys) := by
        rw [Hid, funext HEL.out, HYS.out]
        exact lin_turns HF.out KL.out.ck KM.out.ck
      have h00 : E (-16777217) = [] := by
        rw [HEL.out]
        exact lin_none HF.out KL.out.ck KM.out.ck fun x => ⟨pt_out KL.out.ck (by omega), pt_out KM.out.ck (by omega)⟩
      have HLA : Hid (∀ j r, R[j]? = some r → r.2 ≠ [] → j + 1 < R.length) := fun j r hj hr => by
        rw [HR2.out] at hj ⊢
        have := rows_last ys (-16777217) [] HT.out h00 (j + 1) r (by rw [List.getElem?_cons_succ]; exact hj) hr
        simpa using this
      have HMR : Hid (∀ r ∈ R, r.1 ∈ ys ∧ r.2 = lin f l m r.1) := fun r hr => by
        rw [HR2.out] at hr
        obtain ⟨g1, g2⟩ := rows_mem hr
        exact ⟨g1, by rw [g2, HEL.out]⟩
      have hRl : R.length ≤ 8192 := by
        rw [HR2.out]
        have := rows_length E ys []
        omega
      have HXL : Hid ((xsOf (l ++ m)).length ≤ 8192) := by
        have := xs_length (l ++ m)
        rw [List.length_append, HL.out, HL'.out] at this
        rw [Hid]
        omega
      have CB := hid (bands_any a9 R.length c9 R wr r9 (fun r hr => by rw [(HMR.out r hr).2]; exact HED.out.even _) HLA.out (fun r hr => ys_in (ck_both KL.out.ck KM.out.ck) (by rw [← HYS.out]; exact (HMR.out r hr).1)) (fun r hr x hx => xs_in (ck_both KL.out.ck KM.out.ck) (lin_mem (by rw [(HMR.out r hr).2] at hx; exact hx))) (by omega) (fun r hr => by rw [(HMR.out r hr).2]; have := (chg_sub (fun x => f (pt l x r.1) (pt m x r.1)) (xsOf (l ++ m)) false).length_le; have h2 := HXL.out; unfold lin; omega))
      have HMK : Hid (bnds R = mk f l m) := by
        rw [Hid, HR2.out, HE.out, HYS.out]
        exact rows_mk HF.out KL.out KM.out
      have HW := hid (Below.on HB1.out H7.out.bel)
      rw [HMK.out] at CB
      subst hv9
      clear r9
      go_wp2_with fail
      refine CB.out.mono ?_
      rintro e9 w9 ⟨v9, rfl, h9⟩
      have H9 := hid (h9.base HW.out)
      clear h9
      go_wp2
      go_ret
      exact ⟨_, rfl, H9.out⟩
end Go.Proofs.Ytlkodgmnhphfcaa

/- The contracts of the program's Union, Subtract, Intersect, Of, Area, Cover, Has. -/
namespace Go.Proofs.Ytlkodgmnhphfcaa
open Go Go.RowKit

set_option maxRecDepth 100000 in
theorem fn_or : Fn2 57 or := by
  refine ⟨enters_of Try.func57 (by kernel_rfl) rfl, fun p q u => ?_⟩
  cases p <;> cases q
  all_goals
    go_enter Try.func57, Try.ntmps57
    go_wp2
    go_ret
    exact ⟨rfl, rfl⟩




/-- What comes of two regions; nil of others. -/
def unn (f : Bool → Bool → Bool) (l m : List Rc) : List Rc := if rgn l = true ∧ rgn m = true then mk f l m else []
theorem unn_ok {f : Bool → Bool → Bool} (hf : f false false = false) (l m : List Rc) : ∀ r ∈ unn f l m, r.Ok := fun r hr => by
  unfold unn at hr
  split at hr
  · rename_i h
    exact ((mk_all hf (rgn_iff.1 h.1).ck (rgn_iff.1 h.2).ck).1.ck r hr).ok
  · cases hr
theorem unn_reg {f : Bool → Bool → Bool} {l m : List Rc} (hl : Reg l) (hm : Reg m) : unn f l m = mk f l m := by rw [unn, if_pos ⟨rgn_iff.2 hl, rgn_iff.2 hm⟩]

set_option maxRecDepth 100000 in
set_option maxHeartbeats 1000000 in
theorem union_any (a a' : Option Addr) (n c n' c' : Nat) (l m : List Rc) (w : World) (h : RdC w a n c l) (h' : RdC w a' n' c' m) (hn : n + n' ≤ 4096) :
    Calls Try.prog 44 #[.slice a n c, .slice a' n' c'] w (Ret w (unn or l m)) := by
  have H := hid h
  have H' := hid h'
  have C1 := hid (fun u hu => regcheck_any a n c l u hu)
  have C2 := hid (fun u hu => regcheck_any a' n' c' m u hu)
  have HOK := hid (unn_ok (f := or) rfl l m)
  clear h h'
  cases h1 : rgn l
  · have HU : Hid (unn or l m = []) := by rw [Hid, unn, if_neg (by rw [h1]; simp)]
    rw [h1] at C1
    go_enter Try.func44, Try.ntmps44
    go_wp2_with fail
    refine (C1.out _ H.out).mono ?_
    rintro e w1 ⟨rfl, hb1⟩
    go_wp2
    go_ret
    rw [HU.out]
    exact ⟨none, 0, rfl, RdC.nil _, hb1⟩
  · rw [h1] at C1
    cases h2 : rgn m
    · have HU : Hid (unn or l m = []) := by rw [Hid, unn, if_neg (by rw [h2]; simp)]
      rw [h2] at C2
      go_enter Try.func44, Try.ntmps44
      go_wp2_with fail
      refine (C1.out _ H.out).mono ?_
      rintro e w1 ⟨rfl, hb1⟩
      go_wp2_with fail
      refine (C2.out _ (H'.out.on hb1)).mono ?_
      rintro e w2 ⟨rfl, hb2⟩
      go_wp2
      go_ret
      rw [HU.out]
      exact ⟨none, 0, rfl, RdC.nil _, Below.on hb1 hb2⟩
    · have HU : Hid (unn or l m = mk or l m) := by rw [Hid, unn, if_pos ⟨h1, h2⟩]
      rw [h2] at C2
      have CC := hid (fun u hu hu' => combine_any a a' n c n' c' l m 57 or u hu hu' (rgn_iff.1 h1).bands (rgn_iff.1 h2).bands rfl fn_or hn)
      rw [← HU.out] at CC
      go_enter Try.func44, Try.ntmps44
      go_wp2_with fail
      refine (C1.out _ H.out).mono ?_
      rintro e w1 ⟨rfl, hb1⟩
      go_wp2_with fail
      refine (C2.out _ (H'.out.on hb1)).mono ?_
      rintro e w2 ⟨rfl, hb2⟩
      have HB := hid (Below.on hb1 hb2)
      clear hb1 hb2
      go_wp2_with fail
      refine (CC.out _ (H.out.on HB.out) (H'.out.on HB.out)).mono ?_
      rintro e w3 ⟨v3, rfl, h3⟩
      have H3 := hid ((h3.base HB.out).ret HOK.out)
      clear h3
      go_wp2
      go_ret
      exact H3.out



set_option maxRecDepth 100000 in
set_option maxHeartbeats 1000000 in
theorem of_any (r : Rc) (ok : r.Ok) (w : World) : Calls Try.prog 45 #[.agg #[.int .i64 r.x, .int .i64 r.y, .int .i64 r.w, .int .i64 r.h]] w (Ret w (ofl r)) := by
  have CB := hid (fun u => bound_any r ok u)
  have CE := hid (fun u => empty_any (bnd r) u)
  go_enter Try.func45, Try.ntmps45
  go_wp2_with fail
  refine (CB.out _).mono ?_
  rintro e w1 ⟨rfl, hb1⟩
  obtain ⟨hX, hw⟩ := box1 r hb1
  have HX := hid (hX.st (bnd r))
  have HW := hid (below_st hw (Nat.le_refl _) (bnd r))
  obtain ⟨c0, c1, c2, c3⟩ := hX.all
  have fz := hX.fz
  clear hb1 hX hw CB
  cases he : emp (bnd r)
  · rw [he] at CE
    have HU : Hid (ofl r = [bnd r]) := by rw [Hid, ofl, if_neg (by rw [he]; decide)]
    have HK : Hid (Ck (bnd r)) := (bnd_cases r).resolve_left (by rw [he]; decide)
    go_wp2_with fail
    refine (CE.out _).mono ?_
    rintro e w2 ⟨rfl, hb2⟩
    have hX2 : Bx w2 w.heap.size (bnd r) := HX.out.on hb2
    have HW2 : Hid (Below w.heap.size w w2) := Below.on HW.out hb2
    obtain ⟨d0, d1, d2, d3⟩ := hX2.all
    have HO : Hid (OwC w (w2.alloc (.cells #[.int .i64 (bnd r).x, .int .i64 (bnd r).y, .int .i64 (bnd r).w, .int .i64 (bnd r).h] 36)) (.slice (some ⟨w2.heap.size, 0, none⟩) 1 1) [bnd r]) := ⟨World.ownsRow_lit w2 _ 1 HW2.out.size (by decide) rfl, HW2.out.alloc HW2.out.size _⟩
    clear hX2 hb2 HX HW c0 c1 c2 c3 fz
    go_wp2
    go_ret
    rw [HU.out]
    exact HO.out.ret (fun x hx => by simp only [List.mem_singleton] at hx; rw [hx]; exact HK.out.ok)
  · rw [he] at CE
    have HU : Hid (ofl r = []) := by rw [Hid, ofl, if_pos he]
    go_wp2_with fail
    refine (CE.out _).mono ?_
    rintro e w2 ⟨rfl, hb2⟩
    have HW2 : Hid (Below w.heap.size w w2) := Below.on HW.out hb2
    clear hb2
    go_wp2
    go_ret
    rw [HU.out]
    exact ⟨none, 0, rfl, RdC.nil _, HW2.out⟩

end Go.Proofs.Ytlkodgmnhphfcaa

/- The contracts of the program's Cover, slices.IndexFunc, slices.ContainsFunc, Has. -/
namespace Go.Proofs.Ytlkodgmnhphfcaa
open Go Go.RowKit

/-- Two rectangles in the call's first two blocks. -/
structure Tw (w u : World) (a b : Rc) : Prop where
  fst : Bx u w.heap.size a
  snd : Bx u (w.heap.size + 1) b
  bel : Below w.heap.size w u
theorem Tw.on {w u v : World} {a b : Rc} (h : Tw w u a b) (hb : Below u.heap.size u v) : Tw w v a b := ⟨h.fst.on hb, h.snd.on hb, Below.on h.bel hb⟩
theorem Tw.st1 {w u : World} {a b : Rc} (h : Tw w u a b) (c : Rc) : Tw w (st4 u w.heap.size c) c b := ⟨h.fst.st c, h.snd.st_other (by omega) c, below_st h.bel (Nat.le_refl _) c⟩
theorem Tw.st2 {w u : World} {a b : Rc} (h : Tw w u a b) (c : Rc) : Tw w (st4 u (w.heap.size + 1) c) a c := ⟨h.fst.st_other (by omega) c, h.snd.st c, below_st h.bel (by omega) c⟩

/-- The cover of all. -/
def cvl (l : List Rc) : Rc := l.foldl cov rz
theorem cvl_snoc {l : List Rc} {j : Nat} {r : Rc} (h : l[j]? = some r) : cvl (l.take (j + 1)) = cov (cvl (l.take j)) r := by
  rw [List.take_add_one, h]
  simp [cvl]
theorem cvl_ck {l : List Rc} (hk : ∀ r ∈ l, Ck r) : cvl l = rz ∨ Ck (cvl l) := by
  have key : ∀ (l : List Rc) (a : Rc), (∀ r ∈ l, Ck r) → (a = rz ∨ Ck a) → (l.foldl cov a = rz ∨ Ck (l.foldl cov a)) := by
    intro l
    induction l with
    | nil => intro a _ h; exact h
    | cons r l ih =>
      intro a hk ha
      refine ih _ (fun x hx => hk x (by simp [hx])) (.inr ?_)
      have k := hk r (by simp)
      rcases ha with rfl | ha
      · rw [cov_rz, pln_full k.emp]; exact k
      · exact cov_ck ha k
  exact key l rz hk (.inl rfl)

set_option maxRecDepth 100000 in
set_option maxHeartbeats 1000000 in
theorem rcoverall_any (a : Option Addr) (n c : Nat) (l : List Rc) (w : World) (h : RdC w a n c l) :
    Calls Try.prog 54 #[.slice a n c] w fun e w' => ∃ r, r = (if rgn l = true then cvl l else rz) ∧ e = .returned (.agg #[.int .i64 r.x, .int .i64 r.y, .int .i64 r.w, .int .i64 r.h]) ∧ Below w.heap.size w w' := by
  have C1 := hid (fun u hu => regcheck_any a n c l u hu)
  have HL := hid h.len
  have hs := h.small
  have H := hid h
  have HT : Hid (Tw w ((w.alloc (ob rz)).alloc (ob rz)) rz rz) := by
    obtain ⟨h1, h2, h3⟩ := box2 rz rz (Below.refl ((w.alloc (ob rz)).alloc (ob rz)).heap.size ((w.alloc (ob rz)).alloc (ob rz)))
    exact ⟨h1, h2, h3⟩
  clear h
  cases h1 : rgn l
  · rw [h1] at C1
    go_enter Try.func54, Try.ntmps54
    go_wp2_with fail
    refine (C1.out _ (H.out.on HT.out.bel)).mono ?_
    rintro e w1 ⟨rfl, hb1⟩
    have hT := HT.out.on hb1
    obtain ⟨c0, c1, c2, c3⟩ := hT.snd.all
    obtain ⟨d0, d1, d2, d3⟩ := hT.fst.all
    have fz := hT.fst.fz
    have HT2 := hid hT
    clear hT hb1
    go_wp2
    refine bodyPost_ret (results_cell_row rfl _ _ w.heap.size _ _ _ _ rfl (HT2.out.fst.st rz).obj Try.underlying36 rfl infoR) rfl ?_
    exact ⟨rfl, below_st HT2.out.bel (Nat.le_refl _) rz⟩
  · rw [h1] at C1
    have KC := hid (rgn_iff.1 h1).ck
    go_enter Try.func54, Try.ntmps54
    go_wp2_with fail
    refine (C1.out _ (H.out.on HT.out.bel)).mono ?_
    rintro e w1 ⟨rfl, hb1⟩
    have HT2 := hid (HT.out.on hb1)
    clear hb1 HT
    go_wp2
    go_loopw [12] (fun i wr => ∃ j : Nat, i = .int .i64 j ∧ j ≤ n ∧ Tw w wr rz (cvl (l.take j))) (fun i _ => n - (numOf i).toNat)
    case atStart => exact ⟨0, rfl, by omega, HT2.out⟩
    case round =>
      obtain ⟨j, rfl, hj, hT⟩ := hrel
      have HT3 := hid hT
      clear hT HT2
      by_cases hgo : j < n
      · have e1 : decide ((j : Int) < n) = true := decide_eq_true (by omega)
        obtain ⟨b, off, r, rfl, _, hr, ok, he⟩ := (H.out.on HT3.out.bel).el hgo
        obtain ⟨_, c0, c1, c2, c3⟩ := he
        have k := KC.out r (List.mem_of_getElem? hr)
        have hA := cvl_ck (l := l.take j) (fun x hx => KC.out x (List.mem_of_mem_take hx))
        have HS := hid (cvl_snoc hr)
        generalize cvl (l.take j) = A0 at hA HT3 HS
        have CV := hid (fun u => cover_any A0 r (by rcases hA with rfl | hA; exact rz_ok; exact hA.ok) ok (fun he hf => cvr_ok (by rcases hA with rfl | hA; cases he; exact hA) k) u)
        have HN := hid (HT3.out.on (below_new wr (ob r)))
        rw [ob] at HN
        obtain ⟨d0, d1, d2, d3⟩ := HT3.out.snd.all
        have hlt2 := HT3.out.snd.lt
        clear hr k hA ok
        go_wp2_with fail
        refine (CV.out _).mono ?_
        rintro e w2 ⟨rfl, hb2⟩
        have hT4 := HN.out.on hb2
        obtain ⟨g0, g1, g2, g3⟩ := hT4.snd.all
        have fz := hT4.snd.fz
        have HT5 := hid (hT4.st2 (cov A0 r))
        clear hT4 hb2 HN CV
        go_wp2
        go_roundw
        case rel => exact ⟨j + 1, by go_num, by omega, by rw [HS.out]; exact HT5.out⟩
        case measure => simp [numOf]; omega
      · have e1 : decide ((j : Int) < n) = false := decide_eq_false (by omega)
        have HE : Hid (l.take j = l) := List.take_of_length_le (by rw [HL.out]; omega)
        rw [HE.out] at HT3
        obtain ⟨c0, c1, c2, c3⟩ := HT3.out.snd.all
        obtain ⟨d0, d1, d2, d3⟩ := HT3.out.fst.all
        have fz := HT3.out.fst.fz
        go_wp2
        refine bodyPost_ret (results_cell_row rfl _ _ w.heap.size _ _ _ _ rfl (HT3.out.fst.st (cvl l)).obj Try.underlying36 rfl infoR) rfl ?_
        exact ⟨rfl, below_st HT3.out.bel (Nat.le_refl _) (cvl l)⟩

/-- Where the first is of which p holds. -/
def idx (p : Rc → Bool) : List Rc → Option Nat
  | [] => none
  | r :: t => if p r = true then some 0 else (idx p t).map (· + 1)
def idxI (p : Rc → Bool) (l : List Rc) : Int := match idx p l with
  | some k => k
  | none => -1
theorem idx_drop {p : Rc → Bool} {l : List Rc} : ∀ {j : Nat}, (∀ k r, k < j → l[k]? = some r → p r = false) → idx p l = (idx p (l.drop j)).map (· + j)
  | 0, _ => by simp
  | j + 1, h => by
    rw [idx_drop (j := j) fun k r hk hr => h k r (by omega) hr]
    cases hd : l[j]? with
    | none =>
      have : l.length ≤ j := List.getElem?_eq_none_iff.1 hd
      rw [List.drop_eq_nil_of_le this, List.drop_eq_nil_of_le (by omega)]
      rfl
    | some r =>
      rw [drop_at hd, idx, if_neg (by rw [h j r (by omega) hd]; decide)]
      cases idx p (l.drop (j + 1)) with
      | none => rfl
      | some k => simp; omega
theorem idxI_any {p : Rc → Bool} {l : List Rc} : decide (0 ≤ idxI p l) = l.any p := by
  unfold idxI
  induction l with
  | nil => rfl
  | cons r l ih =>
    rw [idx, List.any_cons]
    cases h : p r
    · rw [if_neg (by decide), Bool.false_or, ← ih]
      cases idx p l with
      | none => rfl
      | some k => simp; omega
    · rw [if_pos rfl, Bool.true_or]
      rfl



theorem below_two (w : World) (o o' : Obj) : Below w.heap.size w ((w.alloc o).alloc o') := Below.on (below_new w o) (below_new _ o')
theorem cell_two (w : World) (x y : Int) (T : TypeId) : ((w.alloc (.cells #[.int .i64 x] T)).alloc (.cells #[.int .i64 y] T)).cell? ⟨w.heap.size, 0, none⟩ = some (.int .i64 x) ∧ ((w.alloc (.cells #[.int .i64 x] T)).alloc (.cells #[.int .i64 y] T)).cell? ⟨w.heap.size + 1, 0, none⟩ = some (.int .i64 y) := by
  constructor
  · rw [(below_new (w.alloc (.cells #[.int .i64 x] T)) (.cells #[.int .i64 y] T)).cell (by simp), World.cell?, heap_alloc_new]
    rfl
  · rw [World.cell?]
    have := heap_alloc_new (w.alloc (.cells #[.int .i64 x] T)) (.cells #[.int .i64 y] T)
    rw [World.size_alloc] at this
    rw [this]
    rfl


end Go.Proofs.Ytlkodgmnhphfcaa

/- Damage: rectangles added one by one to a region that is held to few; how many rectangles a region of so many may have. No program. -/
namespace Go.Proofs.Ytlkodgmnhphfcaa
open Go Go.RowKit

/-- A rectangle added: the union, or, if it has too many, what covers it. -/
def dput (m : List Rc) (r : Rc) : List Rc := if 40 < (mk or m (ofl r)).length then [cvl (mk or m (ofl r))] else mk or m (ofl r)
/-- All of them, one by one. -/
def dfl (l : List Rc) : List Rc := l.foldl dput []
theorem dfl_nil : dfl [] = [] := rfl
theorem dfl_snoc {l : List Rc} {j : Nat} {r : Rc} (h : l[j]? = some r) : dfl (l.take (j + 1)) = dput (dfl (l.take j)) r := by
  rw [List.take_add_one, h]
  simp [dfl]
theorem dfl_push (l : List Rc) (r : Rc) : dfl (l ++ [r]) = dput (dfl l) r := by simp [dfl]

theorem cvl_full {l : List Rc} (hk : ∀ r ∈ l, Ck r) (hn : l ≠ []) : Ck (cvl l) := by
  have key : ∀ (l : List Rc) (a : Rc), (∀ r ∈ l, Ck r) → Ck a → Ck (l.foldl cov a) := by
    intro l
    induction l with
    | nil => intro a _ h; exact h
    | cons r l ih => intro a hk ha; exact ih _ (fun x hx => hk x (by simp [hx])) (cov_ck ha (hk r (by simp)))
  cases l with
  | nil => exact absurd rfl hn
  | cons r l =>
    show Ck (l.foldl cov (cov rz r))
    have k := hk r (by simp)
    rw [cov_rz, pln_full k.emp]
    exact key l r (fun x hx => hk x (by simp [hx])) k
theorem cvl_pt {l : List Rc} (hk : ∀ r ∈ l, Ck r) {x y : Int} (h : pt l x y = true) : has (cvl l) x y = true := by
  have key : ∀ (l : List Rc) (a : Rc), (∀ r ∈ l, Ck r) → (a = rz ∨ Ck a) → (has a x y = true ∨ pt l x y = true) → has (l.foldl cov a) x y = true := by
    intro l
    induction l with
    | nil =>
      intro a _ _ h
      rcases h with h | h
      · exact h
      · cases h
    | cons r l ih =>
      intro a hk ha h
      have k := hk r (by simp)
      have ma := may_of ha
      have mr := may_of (.inr k : r = rz ∨ Ck r)
      refine ih _ (fun x hx => hk x (by simp [hx])) (cov_may ma mr) ?_
      rw [pt_cons, Bool.or_eq_true] at h
      rcases h with h | h | h
      · exact .inl (has_cov ma mr (.inl h))
      · exact .inl (has_cov ma mr (.inr h))
      · exact .inr h
  exact key l rz hk (.inl rfl) (.inr h)
theorem ofl_ck {r : Rc} (k : Ck r) : ofl r = [r] := by
  rw [ofl, bnd_ck k, if_neg (by rw [k.emp]; decide)]
theorem mk_ne {m : List Rc} {r : Rc} (h : 40 < (mk or m (ofl r)).length) : mk or m (ofl r) ≠ [] := fun e => by rw [e] at h; exact absurd h (by decide)
theorem dor {m : List Rc} (h : Reg m) (r : Rc) : Reg (mk or m (ofl r)) ∧ ∀ x y, pt (mk or m (ofl r)) x y = (pt m x y || pt (ofl r) x y) := by
  obtain ⟨h1, h2, _⟩ := mk_all (f := or) (a := m) (b := ofl r) rfl h.ck (ofl_reg r).ck
  exact ⟨h1, h2⟩
theorem dput_reg {m : List Rc} (h : Reg m) (r : Rc) : Reg (dput m r) := by
  rw [dput]
  split
  · rename_i hl
    exact reg_one (cvl_full (dor h r).1.ck (mk_ne hl))
  · exact (dor h r).1
theorem dput_len (m : List Rc) (r : Rc) : (dput m r).length ≤ 40 := by
  rw [dput]
  split
  · exact (by decide : 1 ≤ 40)
  · omega
theorem dput_pt {m : List Rc} (h : Reg m) {r : Rc} {x y : Int} (hp : pt m x y = true ∨ pt (ofl r) x y = true) : pt (dput m r) x y = true := by
  have e : pt (mk or m (ofl r)) x y = true := by rw [(dor h r).2, Bool.or_eq_true]; exact hp
  rw [dput]
  split
  · rw [pt_cons, cvl_pt (dor h r).1.ck e, Bool.true_or]
  · exact e
theorem dfl_all {l : List Rc} : Reg (dfl l) ∧ (dfl l).length ≤ 40 := by
  have key : ∀ (l m : List Rc), Reg m → m.length ≤ 40 → Reg (l.foldl dput m) ∧ (l.foldl dput m).length ≤ 40 := by
    intro l
    induction l with
    | nil => intro m h h'; exact ⟨h, h'⟩
    | cons r l ih => intro m h _; exact ih _ (dput_reg h r) (dput_len m r)
  exact key l [] reg_nil (by decide)
theorem dfl_reg (l : List Rc) : Reg (dfl l) := dfl_all.1
theorem dfl_len (l : List Rc) : (dfl l).length ≤ 40 := dfl_all.2
theorem dfl_pts {l : List Rc} {r : Rc} (hr : r ∈ l) {x y : Int} (hp : pt (ofl r) x y = true) : pt (dfl l) x y = true := by
  have key : ∀ (l m : List Rc), Reg m → (pt m x y = true ∨ r ∈ l) → pt (l.foldl dput m) x y = true := by
    intro l
    induction l with
    | nil =>
      intro m h h'
      rcases h' with h' | h'
      · exact h'
      · cases h'
    | cons a l ih =>
      intro m h h'
      refine ih _ (dput_reg h a) ?_
      rcases h' with h' | h'
      · exact .inl (dput_pt h (.inl h'))
      · rcases List.mem_cons.1 h' with rfl | h'
        · exact .inl (dput_pt h (.inr hp))
        · exact .inr h'
  exact key l [] reg_nil (.inr hr)

/-- A point of the field is in what is left of a rectangle just if it is in it. -/
theorem ofl_has {r : Rc} (ok : r.Ok) {x y : Int} (hx : -16777216 ≤ x ∧ x < 16777216) (hy : -16777216 ≤ y ∧ y < 16777216) : pt (ofl r) x y = has r x y := by
  obtain ⟨⟨_, o1⟩, ⟨_, o2⟩, ⟨_, o3⟩, ⟨_, o4⟩⟩ := ok
  have e : has (bnd r) x y = has r x y := by
    cases he : emp r
    · rw [bnd, cut, if_neg (by rw [he]; decide)]
      have e1 : en fld.x fld.w = 16777216 := by decide
      have e2 : en fld.y fld.h = 16777216 := by decide
      have e3 : fld.x = -16777216 := rfl
      have e4 : fld.y = -16777216 := rfl
      obtain ⟨s1, s2⟩ := sizes he
      rw [e1, e2, e3, e4, oft, Bool.eq_iff_iff, has_iff]
      unfold en
      split <;> split <;> split <;> rw [has_iff] <;> simp only [rz] <;> omega
    · rw [bnd, cut, if_pos (.inl he), has_rz, has_emp he]
  rw [← e, ofl]
  split
  · rename_i h; rw [has_emp h]; rfl
  · rw [pt_cons, pt_nil, Bool.or_false]

/-- Where lines of one lie within the other. -/
def two (a b : Rc) : List (Int × Int) :=
  (if a.y < b.y ∧ b.y < a.y + a.h then [(a.x, b.y)] else []) ++ ((if a.y < b.y + b.h ∧ b.y + b.h < a.y + a.h then [(a.x, b.y + b.h)] else []) ++
    ((if b.y < a.y ∧ a.y < b.y + b.h then [(b.x, a.y)] else []) ++ (if b.y < a.y + a.h ∧ a.y + a.h < b.y + b.h then [(b.x, a.y + a.h)] else [])))
theorem ifl {p : Prop} [Decidable p] (u : Int × Int) : (if p then [u] else []).length = if p then 1 else 0 := by split <;> rfl
theorem two_len (a b : Rc) : (two a b).length ≤ 2 := by
  rw [two, List.length_append, List.length_append, List.length_append, ifl, ifl, ifl, ifl]
  split <;> split <;> split <;> split <;> omega
theorem two_aft {a b : Rc} (ka : Ck a) (kb : Ck b) (h : Aft a b) : two a b = [] := by
  have := ka.h
  have := kb.h
  rw [two, if_neg, if_neg, if_neg, if_neg]
  · rfl
  all_goals (rcases h with ⟨_, _, _⟩ | _ <;> omega)
theorem two_mem {a b : Rc} {e : Int} (h : a.y < e ∧ e < a.y + a.h) (he : e = b.y ∨ e = b.y + b.h) : (a.x, e) ∈ two a b ∧ (a.x, e) ∈ two b a := by
  unfold two
  simp only [List.mem_append]
  rcases he with rfl | rfl
  · rw [if_pos h]
    simp
  · exact ⟨.inr (.inl (by rw [if_pos h]; simp)), .inr (.inr (.inr (by rw [if_pos h]; simp)))⟩
def cnd : List Rc → List (Int × Int)
  | [] => []
  | a :: t => (a.x, a.y) :: (t.flatMap (two a) ++ cnd t)
theorem flat2 (a : Rc) (t : List Rc) : (t.flatMap (two a)).length ≤ 2 * t.length := by
  induction t with
  | nil => exact Nat.le_refl _
  | cons b t ih =>
    have := two_len a b
    rw [List.flatMap_cons, List.length_append, List.length_cons]
    omega
theorem cnd_len : ∀ l : List Rc, (cnd l).length ≤ l.length * l.length
  | [] => Nat.le_refl _
  | a :: t => by
    have h1 := cnd_len t
    have h2 := flat2 a t
    rw [cnd, List.length_cons, List.length_append, List.length_cons, Nat.add_mul, Nat.mul_add]
    omega
theorem cnd_bands : ∀ {l : List Rc}, (∀ r ∈ l, Ck r) → l.Pairwise Aft → (cnd l).length = l.length
  | [], _, _ => rfl
  | a :: t, hk, hp => by
    rw [List.pairwise_cons] at hp
    have e : t.flatMap (two a) = [] := by
      rw [List.flatMap_eq_nil_iff]
      exact fun b hb => two_aft (hk a (by simp)) (hk b (by simp [hb])) (hp.1 b hb)
    rw [cnd, e, List.nil_append, List.length_cons, List.length_cons, cnd_bands (fun r hr => hk r (by simp [hr])) hp.2]
theorem cnd_top {l : List Rc} {a : Rc} (h : a ∈ l) : (a.x, a.y) ∈ cnd l := by
  induction l with
  | nil => cases h
  | cons c t ih =>
    rcases List.mem_cons.1 h with rfl | h
    · rw [cnd]; exact List.mem_cons_self ..
    · rw [cnd]; exact List.mem_cons_of_mem _ (List.mem_append.2 (.inr (ih h)))
theorem cnd_in {l : List Rc} {a b : Rc} (ha : a ∈ l) (hb : b ∈ l) {e : Int} (h : a.y < e ∧ e < a.y + a.h) (he : e = b.y ∨ e = b.y + b.h) : (a.x, e) ∈ cnd l := by
  induction l with
  | nil => cases ha
  | cons c t ih =>
    rw [cnd]
    refine List.mem_cons_of_mem _ (List.mem_append.2 ?_)
    rcases List.mem_cons.1 ha with e1 | ha'
    · rcases List.mem_cons.1 hb with e2 | hb'
      · subst e1 e2; omega
      · subst e1; exact .inl (List.mem_flatMap.2 ⟨b, hb', (two_mem h he).1⟩)
    · rcases List.mem_cons.1 hb with e2 | hb'
      · subst e2; exact .inl (List.mem_flatMap.2 ⟨a, ha', (two_mem h he).2⟩)
      · exact .inr (ih ha' hb')

/-- How many rectangles the region of some may have. -/
theorem reg_cnt {l m : List Rc} (hm : Reg m) (h : ∀ x y, pt m x y = pt l x y) : m.length ≤ (cnd l).length := by
  have h1 : (m.map fun r => (r.x, r.y)).Nodup := by
    rw [List.nodup_iff_pairwise_ne, List.pairwise_map]
    refine hm.aft.imp_of_mem fun {a b} ha hb hr e => ?_
    have k1 := (hm.ck a ha).w
    have k2 := (hm.ck a ha).h
    simp only [Prod.mk.injEq] at e
    rcases hr with ⟨_, _, _⟩ | _ <;> omega
  have h2 := nodup_len (m := cnd l) h1 fun p hp => by
    obtain ⟨r, hr, rfl⟩ := List.mem_map.1 hp
    have k := hm.mark hr
    have kw := k.w
    have i1 := k.ins r.x (by omega) (by omega)
    have i2 := k.left
    rw [h] at i1 i2
    obtain ⟨a, ha, h3⟩ := pt_iff.1 i1
    have h4 := pt_no.1 i2 a ha
    rw [has_iff] at h3
    have ex : a.x = r.x := by
      rcases Int.lt_or_le a.x r.x with h5 | h5
      · rw [← Bool.not_eq_true, has_iff] at h4
        omega
      · omega
    rw [← ex]
    rcases Int.lt_or_le a.y r.y with h5 | h5
    · obtain ⟨x, hx⟩ := k.top
      rw [h, h] at hx
      have hb : ∃ b ∈ l, r.y = b.y ∨ r.y = b.y + b.h := by
        cases e1 : pt l x (r.y - 1)
        · cases e2 : pt l x r.y
          · exact absurd (e1.trans e2.symm) hx
          · obtain ⟨b, hb, h6⟩ := pt_iff.1 e2
            have h7 := pt_no.1 e1 b hb
            rw [← Bool.not_eq_true, has_iff] at h7
            rw [has_iff] at h6
            exact ⟨b, hb, by omega⟩
        · cases e2 : pt l x r.y
          · obtain ⟨b, hb, h6⟩ := pt_iff.1 e1
            have h7 := pt_no.1 e2 b hb
            rw [← Bool.not_eq_true, has_iff] at h7
            rw [has_iff] at h6
            exact ⟨b, hb, by omega⟩
          · exact absurd (e1.trans e2.symm) hx
      obtain ⟨b, hb, he⟩ := hb
      exact cnd_in ha hb ⟨h5, by omega⟩ he
    · have ey : a.y = r.y := by omega
      rw [← ey]
      exact cnd_top ha
  rw [List.length_map] at h2
  exact h2

theorem cnd_snoc_len (l : List Rc) (r : Rc) : (cnd (l ++ [r])).length ≤ (cnd l).length + 2 * l.length + 1 := by
  induction l with
  | nil => exact Nat.le_refl _
  | cons a t ih =>
    have h := two_len a r
    rw [List.cons_append, cnd, cnd, List.length_cons, List.length_cons, List.length_append, List.length_append, List.flatMap_append, List.length_append, List.length_cons]
    have e : ([r].flatMap (two a)).length = (two a r).length := by simp
    omega
/-- A region of 40, and one more: how many there may be. -/
theorem dor_len {m : List Rc} (h : Reg m) (hl : m.length ≤ 40) (r : Rc) : (mk or m (ofl r)).length ≤ 121 := by
  have hd := dor h r
  have h1 := reg_cnt (l := m ++ ofl r) hd.1 fun x y => by rw [hd.2, pt_append]
  have h2 := cnd_bands h.ck h.aft
  have e : ofl r = [] ∨ ofl r = [bnd r] := by
    rw [ofl]
    split
    · exact .inl rfl
    · exact .inr rfl
  rcases e with e | e
  · rw [e] at h1 ⊢
    rw [List.append_nil] at h1; omega
  · have h3 := cnd_snoc_len m (bnd r)
    rw [e] at h1 ⊢
    omega

/-- Where the region never has too many, its points are all of theirs. -/
theorem dfl_just {l : List Rc} (h : ∀ j, (cnd ((l.take j).flatMap ofl)).length ≤ 40) (x y : Int) : pt (dfl l) x y = pt (l.flatMap ofl) x y := by
  have key : ∀ j, j ≤ l.length → ∀ x y, pt (dfl (l.take j)) x y = pt ((l.take j).flatMap ofl) x y := by
    intro j
    induction j with
    | zero => intro _ x y; rfl
    | succ j ih =>
      intro hj x y
      have hr : l[j]? = some l[j] := List.getElem?_eq_getElem (by omega)
      have ih' := ih (by omega)
      have e : (l.take (j + 1)).flatMap ofl = (l.take j).flatMap ofl ++ ofl l[j] := by
        rw [List.take_add_one, hr, List.flatMap_append, Option.toList_some, List.flatMap_cons, List.flatMap_nil, List.append_nil]
      have hd := dor (dfl_reg (l.take j)) l[j]
      have hl := reg_cnt (l := (l.take (j + 1)).flatMap ofl) hd.1 fun x y => by rw [hd.2, e, pt_append, ih']
      rw [dfl_snoc hr, dput, if_neg (by have := h (j + 1); omega), hd.2, e, pt_append, ih']
  have := key l.length (Nat.le_refl _) x y
  rwa [List.take_length] at this
theorem ofl_flat_len (l : List Rc) : (l.flatMap ofl).length ≤ l.length := by
  induction l with
  | nil => exact Nat.le_refl _
  | cons r l ih =>
    have := ofl_length r
    rw [List.flatMap_cons, List.length_append, List.length_cons]
    omega
/-- Few. -/
theorem dfl_few {l : List Rc} (h : l.length ≤ 6) (x y : Int) : pt (dfl l) x y = pt (l.flatMap ofl) x y := dfl_just (fun j => by
  have h1 := cnd_len ((l.take j).flatMap ofl)
  have h2 := ofl_flat_len (l.take j)
  rw [List.length_take] at h2
  have h3 : ((l.take j).flatMap ofl).length ≤ 6 := by omega
  have h4 := Nat.mul_le_mul h3 h3
  omega) x y
theorem ofl_flat {l : List Rc} (hk : ∀ r ∈ l, Ck r) : l.flatMap ofl = l := by
  induction l with
  | nil => rfl
  | cons r l ih => rw [List.flatMap_cons, ofl_ck (hk r (by simp)), ih fun a ha => hk a (by simp [ha])]; rfl
/-- A region, added anew, is itself. -/
theorem dfl_again {l : List Rc} (h : Reg l) (hl : l.length ≤ 40) : dfl l = l := by
  refine reg_eq (dfl_reg l) h fun x y => ?_
  rw [dfl_just (fun j => ?_), ofl_flat h.ck]
  have hk : ∀ r ∈ l.take j, Ck r := fun r hr => h.ck r (List.mem_of_mem_take hr)
  rw [ofl_flat hk, cnd_bands hk (h.aft.sublist (List.take_sublist j l)), List.length_take]
  omega
/-- What is there is added to no effect. -/
theorem dput_there {m : List Rc} (h : Reg m) (hl : m.length ≤ 40) {r : Rc} (hr : ∀ x y, pt (ofl r) x y = true → pt m x y = true) : dput m r = m := by
  have e : mk or m (ofl r) = m := reg_eq (dor h r).1 h fun x y => by
    rw [(dor h r).2]
    cases e1 : pt m x y
    · cases e2 : pt (ofl r) x y
      · rfl
      · rw [hr x y e2] at e1; cases e1
    · rfl
  rw [dput, e, if_neg (by omega)]
/-- Few: the order plays no part. -/
theorem dfl_turn {l : List Rc} (h : l.length ≤ 6) (k : Nat) : dfl (l.drop k ++ l.take k) = dfl l := by
  refine reg_eq (dfl_reg _) (dfl_reg _) fun x y => ?_
  rw [dfl_few (by rw [List.length_append, List.length_drop, List.length_take]; omega), dfl_few h, List.flatMap_append, pt_append, Bool.or_comm, ← pt_append, ← List.flatMap_append, List.take_append_drop]
theorem dput_few {l : List Rc} (h : l.length ≤ 6) {r : Rc} (hr : r ∈ l) : dput (dfl l) r = dfl l := dput_there (dfl_reg l) (dfl_len l) fun x y hp => by
  rw [dfl_few h, pt_iff]
  obtain ⟨a, ha, h'⟩ := pt_iff.1 hp
  exact ⟨a, List.mem_flatMap.2 ⟨r, hr, ha⟩, h'⟩

/-- Rectangles in a line, the first one longer. -/
def lne (p : Int) (k : Nat) : List Rc := ⟨0, 0, p, 1⟩ :: (List.range k).map fun (i : Nat) => ⟨p + 1 + 2 * (i : Int), 0, 1, 1⟩
theorem lne_snoc (p : Int) (k : Nat) : lne p (k + 1) = lne p k ++ [⟨p + 1 + 2 * (k : Int), 0, 1, 1⟩] := by
  rw [lne, lne, List.range_succ, List.map_append]
  rfl
theorem lne_len (p : Int) (k : Nat) : (lne p k).length = k + 1 := by simp [lne]
theorem lne_mem {p : Int} {k : Nat} {r : Rc} (hp : 1 ≤ p) (h : r ∈ lne p k) : r.y = 0 ∧ r.h = 1 ∧ 1 ≤ r.w ∧ 0 ≤ r.x ∧ r.x + r.w ≤ p + 2 * (k : Int) := by
  rcases List.mem_cons.1 h with rfl | h
  · exact ⟨rfl, rfl, hp, Int.le_refl _, by show 0 + p ≤ _; omega⟩
  · obtain ⟨i, hi, rfl⟩ := List.mem_map.1 h
    have := List.mem_range.1 hi
    refine ⟨rfl, rfl, Int.le_refl _, ?_, ?_⟩
    · show 0 ≤ p + 1 + 2 * (i : Int); omega
    · show p + 1 + 2 * (i : Int) + 1 ≤ _; omega
theorem lne_reg {p : Int} (hp : 1 ≤ p) {k : Nat} (hk : p + 2 * (k : Int) ≤ 1000) : Reg (lne p k) := by
  have hck : ∀ r ∈ lne p k, Ck r := fun r hr => by
    obtain ⟨h1, h2, h3, h4, h5⟩ := lne_mem hp hr
    exact ⟨h3, by omega, by omega, by omega, by omega, by omega⟩
  refine ⟨hck, ?_, fun r hr => ⟨r.x, ?_⟩⟩
  · clear hck hk
    induction k with
    | zero => simp [lne]
    | succ k ih =>
      rw [lne_snoc, List.pairwise_append]
      refine ⟨ih, by simp, fun a ha b hb => ?_⟩
      obtain ⟨h1, h2, h3, h4, h5⟩ := lne_mem hp ha
      rw [List.mem_singleton] at hb
      subst hb
      refine .inl ⟨h1.symm, h2.symm, ?_⟩
      show a.x + a.w < p + 1 + 2 * (k : Int)
      omega
  · obtain ⟨h1, h2, h3, h4, h5⟩ := lne_mem hp hr
    have e1 : pt (lne p k) r.x r.y = true := pt_iff.2 ⟨r, hr, has_iff.2 ⟨h3, by omega, by omega, by omega, by omega, by omega⟩⟩
    have e2 : pt (lne p k) r.x (r.y - 1) = false := pt_no.2 fun a ha => has_no (by
      obtain ⟨g1, g2, _⟩ := lne_mem hp ha
      omega)
    rw [e1, e2]
    decide
theorem lne_add {p : Int} (hp : 1 ≤ p) {k : Nat} (hk : p + 2 * (k : Int) + 2 ≤ 1000) : mk or (lne p k) (ofl ⟨p + 1 + 2 * (k : Int), 0, 1, 1⟩) = lne p (k + 1) := by
  have kr : Ck ⟨p + 1 + 2 * (k : Int), 0, 1, 1⟩ := by constructor <;> dsimp only <;> omega
  have hd := dor (lne_reg hp (k := k) (by omega)) ⟨p + 1 + 2 * (k : Int), 0, 1, 1⟩
  refine reg_eq hd.1 (lne_reg hp (by omega)) fun x y => ?_
  rw [hd.2, ofl_ck kr, lne_snoc, pt_append]
theorem lne_cov {p : Int} (hp : 1 ≤ p) {k : Nat} (hk : p + 2 * (k : Int) ≤ 1000) : cvl (lne p k) = ⟨0, 0, p + 2 * (k : Int), 1⟩ := by
  induction k with
  | zero =>
    show cov rz ⟨0, 0, p, 1⟩ = _
    have kc : Ck ⟨0, 0, p, 1⟩ := by constructor <;> dsimp only <;> omega
    rw [cov_rz, pln_full kc.emp]
    simp
  | succ k ih =>
    rw [lne_snoc, cvl, List.foldl_append]
    show cov (cvl (lne p k)) _ = _
    rw [ih (by omega)]
    have k1 : Ck ⟨0, 0, p + 2 * (k : Int), 1⟩ := by constructor <;> dsimp only <;> omega
    have k2 : Ck ⟨p + 1 + 2 * (k : Int), 0, 1, 1⟩ := by constructor <;> dsimp only <;> omega
    rw [cov_sum k1 k2]
    simp only [Rc.mk.injEq]
    refine ⟨by omega, by decide, by omega, by decide⟩
/-- So many in a line. -/
def cmb (k : Nat) : List Rc := (List.range k).map fun (i : Nat) => ⟨2 * (i : Int), 0, 1, 1⟩
theorem cmb_snoc (k : Nat) : cmb (k + 1) = cmb k ++ [⟨2 * (k : Int), 0, 1, 1⟩] := by
  rw [cmb, cmb, List.range_succ, List.map_append]
  rfl
theorem cmb_len (k : Nat) : (cmb k).length = k := by simp [cmb]
theorem cmb_lne (k : Nat) : cmb (k + 1) = lne 1 k := by
  induction k with
  | zero => rfl
  | succ k ih =>
    rw [cmb_snoc, ih, lne_snoc, show (2 * ((k + 1 : Nat) : Int)) = 1 + 1 + 2 * (k : Int) by omega]
theorem dfl_cmb {k : Nat} (hk : k ≤ 40) : dfl (cmb k) = cmb k := by
  induction k with
  | zero => rfl
  | succ k ih =>
    rw [cmb_snoc, dfl_push, ih (by omega), ← cmb_snoc, dput]
    cases k with
    | zero =>
      have kc : Ck ⟨2 * ((0 : Nat) : Int), 0, 1, 1⟩ := by constructor <;> dsimp only <;> omega
      have hd := dor reg_nil ⟨2 * ((0 : Nat) : Int), 0, 1, 1⟩
      have e : mk or (cmb 0) (ofl ⟨2 * ((0 : Nat) : Int), 0, 1, 1⟩) = cmb 1 := reg_eq hd.1 (by rw [cmb_lne]; exact lne_reg (by decide) (by decide)) fun x y => by
        show pt (mk or [] _) x y = _
        rw [hd.2, ofl_ck kc]
        rfl
      rw [e, if_neg (by decide)]
    | succ k =>
      have e := lne_add (p := 1) (by decide) (k := k) (by omega)
      rw [show (1 + 1 + 2 * (k : Int)) = 2 * ((k + 1 : Nat) : Int) by omega] at e
      rw [cmb_lne, e, ← cmb_lne, if_neg (by rw [cmb_len]; omega)]
theorem dfl_many {k : Nat} (hk : k ≤ 30) : dfl (cmb (41 + k)) = lne 81 k := by
  induction k with
  | zero =>
    have e := lne_add (p := 1) (by decide) (k := 39) (by decide)
    rw [show 41 + 0 = 40 + 1 from rfl, cmb_snoc, dfl_push, dfl_cmb (by decide), dput, cmb_lne, show (2 * ((40 : Nat) : Int)) = 1 + 1 + 2 * ((39 : Nat) : Int) from rfl, e, if_pos (by rw [lne_len]; decide), lne_cov (by decide) (by decide)]
    rfl
  | succ k ih =>
    have e := lne_add (p := 81) (by decide) (k := k) (by omega)
    rw [show (81 + 1 + 2 * (k : Int)) = 2 * ((41 + k : Nat) : Int) by omega] at e
    rw [← Nat.add_assoc, cmb_snoc, dfl_push, ih (by omega), dput, e]
    rw [if_neg (by rw [lne_len]; omega)]
end Go.Proofs.Ytlkodgmnhphfcaa
