/- Lemmas that the proof leans on. -/
import Derived.Test.YtpbgbpcdohdecaaGreatDoorB16
namespace Go.Proofs.YtpbgbpcdohdecaaGreatDoor
open Go Go.RowKit
set_option maxRecDepth 100000
set_option maxHeartbeats 2000000
section
theorem step_append_own_src_RgnP {P : Program} {ops : Array Oper} {o : Oper} {a : Act} {w : World} {K : Act → World → Prop} {Q : Exit → Act → World → Prop} {E : Prop}
  (hg : o.guard = none) (s x : Operand) (t tx : TypeId) (hop : o.op = .call { callee := .builtin .append, args := #[s, x], argTypes := #[t, tx] })
  (base : Nat) (e : TypeId) (i : TypeInfo) (z : Value) (size bytes : Nat) (ht : P.underlying t = some (.slice e)) (hi : P.info? e = some i) (hz : i.zero = some z)
  (hsize : i.size = size) (hby : i.bytes = bytes) (hzs : z.cells.size = size)
  (v : Value) (n : Nat) (xs : List Value) (hs : a.eval s = v) (hown : w.ownsRow base e size v n xs)
  (xv : Value) (m : Nat) (news : List Value) (hx : a.eval x = xv) (hsrc : Src P size tx xv m news w)
  (h63 : n + m ≤ maxLen) (hbytes : ∀ old, old < n + m → Builtin.nextslicecap (n + m) old * bytes ≤ 281474976710656) (hbase : base ≤ w.heap.size)
  (h : ∀ v' w', w'.ownsRow base e size v' (n + m) (xs ++ news) → w.grownBy w' v.ownBlock → K (a.put o.dst v') w') :
  if Region.wanted o (yielded ops a.tmps) = true then Oper.wp P o a w K Q else E := by
 have hw : Region.wanted o (yielded ops a.tmps) = true := by simp [Region.wanted, hg]
 rw [if_pos hw]
 obtain ⟨v', w', hr, h2, h3⟩ := run_append_own_src (P := P) w base t tx o.type e i z size bytes ht hi hz hsize hby hzs v n xs hown xv m news hsrc h63 hbytes hbase
 unfold Oper.wp
 simp [execOp, hop, resolve, invoke, builtin, hs, hx, hr, Result.andThen]
 exact h v' w' h2 h3
structure Rw_RgnP (u : World) (b o : Nat) (r : Int × List Int) : Prop where
 lt : b < u.heap.size
 c0 : u.cell? ⟨b, o, none⟩ = some (.int .i64 r.1)
 c1 : ∃ a c, u.cell? ⟨b, o + 1, none⟩ = some (.slice a r.2.length c) ∧ RdJ u a r.2.length c r.2
theorem Rw_RgnP.on {w u : World} {b o : Nat} {r : Int × List Int} (h : Rw_RgnP w b o r) (hb : Below w.heap.size w u) : Rw_RgnP u b o r :=
 ⟨Nat.lt_of_lt_of_le h.lt hb.size, by rw [hb.cell h.lt]; exact h.c0, by
  obtain ⟨a, c, h1, h2⟩ := h.c1
  exact ⟨a, c, by rw [hb.cell h.lt]; exact h1, h2.on hb⟩⟩
structure RdW (w : World) (a : Option Addr) (n c : Nat) (l : List (Int × List Int)) : Prop where
 len : l.length = n
 le : n ≤ c
 max : c ≤ maxLen
 hnil : a = none → c = 0
 pl : 0 < n → ∃ b off, a = some ⟨b, off, none⟩ ∧ b < w.heap.size ∧ ∀ j r, l[j]? = some r → Rw_RgnP w b (off + j * 2) r
theorem RdW.on {w u : World} {a : Option Addr} {n c : Nat} {l : List (Int × List Int)} (h : RdW w a n c l) (hb : Below w.heap.size w u) : RdW u a n c l :=
 ⟨h.len, h.le, h.max, h.hnil, fun hn => by
  obtain ⟨b, off, e, h1, h2⟩ := h.pl hn
  exact ⟨b, off, e, Nat.lt_of_lt_of_le h1 hb.size, fun j r hr => (h2 j r hr).on hb⟩⟩
theorem RdW.small {w : World} {a : Option Addr} {n c : Nat} {l : List (Int × List Int)} (h : RdW w a n c l) : n ≤ 9223372036854775807 ∧ c ≤ 9223372036854775807 := by
 have h1 := h.le
 have h2 := h.max
 simp only [maxLen] at h2
 omega
theorem RdW.el {w : World} {a : Option Addr} {n c : Nat} {l : List (Int × List Int)} (h : RdW w a n c l) {j : Nat} (hj : j < n) : ∃ b off r, a = some ⟨b, off, none⟩ ∧ b < w.heap.size ∧ l[j]? = some r ∧ Rw_RgnP w b (off + j * 2) r := by
 have hl := h.len
 obtain ⟨b, off, e, h1, h2⟩ := h.pl (by omega)
 have hr : l[j]? = some l[j] := List.getElem?_eq_getElem (by omega)
 exact ⟨b, off, _, e, h1, hr, h2 j _ hr⟩
structure OwC (w u : World) (v : Value) (l : List Rc) : Prop where
 own : u.ownsRow w.heap.size 97 4 v l.length (rccs l)
 bel : Below w.heap.size w u
theorem OwC.on {w u u' : World} {v : Value} {l : List Rc} (h : OwC w u v l) (hb : Below u.heap.size u u') : OwC w u' v l := ⟨ownsRow_below h.own hb, Below.on h.bel hb⟩
theorem OwC.base {w w0 u : World} {v : Value} {l : List Rc} (h : OwC w u v l) (hb : Below w0.heap.size w0 w) : OwC w0 u v l := ⟨ownsRow_low h.own hb.size, Below.on hb h.bel⟩
theorem OwC.size {w u : World} {v : Value} {l : List Rc} (h : OwC w u v l) : w.heap.size ≤ u.heap.size := h.bel.size
theorem OwC.grown {w u u' : World} {v v' : Value} {l m : List Rc} (h : OwC w u v l) (o2 : u'.ownsRow w.heap.size 97 4 v' (l.length + m.length) (rccs l ++ rccs m)) (g : u.grownBy u' v.ownBlock) : OwC w u' v' (l ++ m) :=
 ⟨by rw [List.length_append, rccs_append]; exact o2, h.bel.grown g h.bel.size (fun k hk => (h.own.lt k hk).1)⟩
theorem OwC.nil (w : World) : OwC w w (.slice none 0 0) [] := ⟨World.ownsRow_nil _ _ _ _, Below.refl _ _⟩
theorem OwC.ret {w u : World} {v : Value} {l : List Rc} (h : OwC w u v l) (ok : ∀ r ∈ l, r.Ok) : Ret w l (.returned v) u := by
 obtain ⟨a, c, rfl, hr⟩ := rdc_of_owns h.own ok
 exact ⟨a, c, rfl, hr, h.bel⟩
theorem srcR (w : World) (r : Rc) : Src Tryz.prog 4 98 (.slice (some ⟨w.heap.size, 0, none⟩) 1 1) 1 (rccs [r]) (w.alloc (.cells #[.int .i64 r.x, .int .i64 r.y, .int .i64 r.w, .int .i64 r.h] 97)) :=
 Src.ofSlice (P := Tryz.prog) _ Tryz.underlying98 ⟨w.heap.size, 0, none⟩ 1 1 (rccs [r]) rfl (fun q u hu => by
  match q, hu with
  | 0, hu => cases hu; simp [Addr.add]
  | 1, hu => cases hu; simp [Addr.add]
  | 2, hu => cases hu; simp [Addr.add]
  | 3, hu => cases hu; simp [Addr.add]
  | q + 4, hu => simp [rccs, rcc] at hu) (rccs_one _)
theorem prs_snoc {y h : Int} {e : List Int} {k : Nat} {p q : Int} (hp : e[2 * k]? = some p) (hq : e[2 * k + 1]? = some q) : prs y h (e.take (2 * (k + 1))) = prs y h (e.take (2 * k)) ++ [⟨p, y, q - p, h⟩] := by
 have hl : 2 * k + 1 < e.length := (List.getElem?_eq_some_iff.1 hq).1
 rw [show 2 * (k + 1) = 2 * k + 1 + 1 by omega, List.take_add_one, List.take_add_one, hp, hq, List.append_assoc, prs_append _ (by rw [List.length_take]; omega)]
 rfl
theorem bnds_snoc {l : List (Int × List Int)} {i : Nat} {r s : Int × List Int} (hr : l[i]? = some r) (hs : l[i + 1]? = some s) : bnds (l.take (i + 1 + 1)) = bnds (l.take (i + 1)) ++ prs r.1 (s.1 - r.1) r.2 := by
 induction l generalizing i with
 | nil => simp at hr
 | cons x l ih =>
  cases l with
  | nil => simp at hs
  | cons z l =>
   cases i with
   | zero =>
    simp only [List.getElem?_cons_zero, List.getElem?_cons_succ, Option.some.injEq] at hr hs
    subst hr hs
    simp [bnds]
   | succ i =>
    rw [List.getElem?_cons_succ] at hr hs
    have ih' : bnds (z :: l.take (i + 1)) = bnds (z :: l.take i) ++ prs r.1 (s.1 - r.1) r.2 := ih hr hs
    show bnds (x :: z :: l.take (i + 1)) = bnds (x :: z :: l.take i) ++ _
    obtain ⟨y, e⟩ := x
    obtain ⟨y', e'⟩ := z
    rw [bnds, bnds, ih', List.append_assoc]
theorem prs_len (y h : Int) : ∀ e : List Int, (prs y h e).length ≤ e.length
 | [] => by simp [prs]
 | [_] => by simp [prs]
 | _ :: _ :: t => by rw [prs, List.length_cons, List.length_cons, List.length_cons]; have := prs_len y h t; omega
theorem bnds_len {M : Nat} : ∀ {l : List (Int × List Int)}, (∀ r ∈ l, r.2.length ≤ M) → (bnds l).length ≤ l.length * M
 | [], _ => by simp [bnds]
 | [_], _ => by simp [bnds]
 | (y, e) :: (y', e') :: t, h => by
  have h1 := h (y, e) (by simp)
  have h2 := bnds_len (l := (y', e') :: t) fun r hr => h r (by simp [hr])
  have h3 := prs_len y (y' - y) e
  rw [bnds, List.length_append, show ((y, e) :: (y', e') :: t).length = ((y', e') :: t).length + 1 from rfl, Nat.add_mul]
  simp only at h1
  omega
theorem own_ne_RgnP {u : World} {base e size n p : Nat} {v : Value} {xs : List Value} {cs : Array Value} {T : TypeId} (h : u.ownsRow base e size v n xs) (hp : u.heap[p]? = some (.cells cs T (0, 0))) (hT : T ≠ e) : some p ≠ v.ownBlock := by
 rcases h.2 with ⟨rfl, _⟩ | ⟨g, cap, cur, rfl, _, hg, _⟩
 ·simp [Value.ownBlock]
 ·intro e'
  simp only [Value.ownBlock, Option.some.injEq] at e'
  subst e'
  rw [hp] at hg
  simp only [Option.some.injEq, Obj.cells.injEq] at hg
  exact hT hg.2.1
structure RB (u : World) (p : Nat) (y : Int) (v : Value) : Prop where
 obj : u.heap[p]? = some (.cells #[.int .i64 y, v] 359 (0, 0))
theorem RB.on {u u' : World} {p : Nat} {y : Int} {v : Value} (h : RB u p y v) (hb : Below u.heap.size u u') : RB u' p y v := ⟨by rw [hb.block p (Array.getElem?_eq_some_iff.1 h.obj).1]; exact h.obj⟩
theorem RB.all {u : World} {p : Nat} {y : Int} {v : Value} (h : RB u p y v) : u.cell? ⟨p, 0, none⟩ = some (.int .i64 y) ∧ u.cell? ⟨p, 1, none⟩ = some v ∧ True ∧ True := by
 refine ⟨?_, ?_, trivial, trivial⟩ <;> (rw [World.cell?, h.obj]; rfl)
structure CI (u : World) (b o : Nat) (y : Int) : Prop where
 lt : b < u.heap.size
 c : u.cell? ⟨b, o, none⟩ = some (.int .i64 y)
theorem CI.on {u u' : World} {b o : Nat} {y : Int} (h : CI u b o y) (hb : Below u.heap.size u u') : CI u' b o y := ⟨Nat.lt_of_lt_of_le h.lt hb.size, by rw [hb.cell h.lt]; exact h.c⟩
theorem CI.all {u : World} {b o : Nat} {y : Int} (h : CI u b o y) : u.cell? ⟨b, o, none⟩ = some (.int .i64 y) ∧ True ∧ True ∧ True := ⟨h.c, trivial, trivial, trivial⟩
theorem prs_two {y h : Int} {e : List Int} {k : Nat} {p q : Int} (h2 : k % 2 = 0) (hp : e[k]? = some p) (hq : e[k + 1]? = some q) : prs y h (e.take (k + 2)) = prs y h (e.take k) ++ [⟨p, y, q - p, h⟩] := by
 obtain ⟨m, rfl⟩ : ∃ m, k = 2 * m := ⟨k / 2, by omega⟩
 exact prs_snoc hp hq
theorem bands_any (a : Option Addr) (n c : Nat) (l : List (Int × List Int)) (w : World) (h : RdW w a n c l) (hev : ∀ r ∈ l, r.2.length % 2 = 0) (hlast : ∀ j r, l[j]? = some r → r.2 ≠ [] → j + 1 < l.length) (hy : ∀ r ∈ l, -16777216 ≤ r.1 ∧ r.1 ≤ 16777216) (hx : ∀ r ∈ l, ∀ x ∈ r.2, -16777216 ≤ x ∧ x ≤ 16777216) (hn : n ≤ 20000) (hm : ∀ r ∈ l, r.2.length ≤ 20000) :
  Calls Tryz.prog 267 #[.slice a n c] w fun e w' => ∃ v, e = .returned v ∧ OwC w w' v (bnds l) := by
 have H := hid h
 have HL := hid h.len
 have hs := h.small
 have HEV := hid hev
 have HLA := hid hlast
 have HY := hid hy
 have HX := hid hx
 have HM := hid hm
 obtain ⟨i0, hi, hz0, hz1, hz2⟩ := info3 infoC
 clear h hev hlast hy hx hm
 go_enter Tryz.func267, Tryz.ntmps267
 go_wp2
 go_loopw [3, 11] (fun v x wr => ∃ i : Nat, x = .int .i64 i ∧ i ≤ n ∧ OwC w wr v (bnds (l.take (i + 1)))) (fun _ x _ => n - (numOf x).toNat)
 case atStart =>
  refine ⟨0, rfl, by omega, ?_⟩
  have : bnds (l.take (0 + 1)) = [] := by
   cases l with
   | nil => rfl
   | cons x l => rfl
  rw [this]
  exact OwC.nil w
 case round =>
  obtain ⟨i, rfl, hin, hO⟩ := hrel
  have HO := hid hO
  clear hO
  by_cases hgo : i < n
  ·have e1 : decide ((i : Int) < n) = true := decide_eq_true (by omega)
   obtain ⟨b, off, r, rfl, _, hr, hw0⟩ := H.out.el hgo
   obtain ⟨ae, ce, hc1, hre⟩ := hw0.c1
   have c0 := hw0.c0
   have hlt := hw0.lt
   rw [← HO.out.bel.cell hlt] at c0 hc1
   have HR := hid hr
   have HRE := hid hre
   have hsm := hre.small
   obtain ⟨ry, re⟩ := r
   simp only at c0 hc1 HRE hsm
   have hmem := List.mem_of_getElem? hr
   have hy1 := HY.out _ hmem
   have hev1 := HEV.out _ hmem
   have hm1 := HM.out _ hmem
   have HX1 := hid (HX.out _ hmem)
   simp only at hy1 hev1 hm1 HX1
   have HN : Hid (∃ hh, (bnds (l.take (i + 1 + 1)) = bnds (l.take (i + 1)) ++ prs ry hh re) ∧ (re ≠ [] → ∃ s, l[i + 1]? = some s ∧ i + 1 < n ∧ hh = s.1 - ry)) := by
    rw [Hid]
    by_cases he : i + 1 < l.length
    ·exact ⟨_, bnds_snoc hr (List.getElem?_eq_getElem he), fun _ => ⟨_, List.getElem?_eq_getElem he, by rw [← HL.out]; exact he, rfl⟩⟩
    ·have hre0 : re = [] := Classical.byContradiction fun hne => he (HLA.out i _ hr hne)
     refine ⟨0, ?_, fun hne => absurd hre0 hne⟩
     rw [hre0, List.take_of_length_le (by omega), List.take_of_length_le (by omega)]
     simp [prs]
   obtain ⟨hh, hb1, hb2⟩ := HN.out
   have HB1 := hid hb1
   have HB2 := hid hb2
   have HBL : Hid (∀ m, (bnds (l.take (i + 1)) ++ prs ry hh (re.take m)).length ≤ 600000000) := fun m => by
    rw [List.length_append]
    have h1 := bnds_len (M := 20000) (l := l.take (i + 1)) fun r hr => HM.out r (List.mem_of_mem_take hr)
    have h2 := prs_len ry hh (re.take m)
    rw [List.length_take] at h1 h2
    have h3 : min (i + 1) l.length * 20000 ≤ 20001 * 20000 := Nat.mul_le_mul_right _ (by omega)
    omega
   clear hb1 hb2 hr hre hw0 HN hmem
   generalize bnds (l.take (i + 1)) = B0 at HO HB1 HBL
   go_wp2
   have HBX : Hid (RB (wr.alloc (.cells #[.int .i64 ry, .slice ae re.length ce] 359)) wr.heap.size ry (.slice ae re.length ce)) := ⟨heap_alloc_new wr _⟩
   have HO1 := hid (HO.out.on (below_new wr (.cells #[.int .i64 ry, .slice ae re.length ce] 359)))
   obtain ⟨P, hP⟩ : ∃ P, P = wr.heap.size := ⟨_, rfl⟩
   rw [← hP] at HBX ⊢
   generalize wr.alloc (.cells #[.int .i64 ry, .slice ae re.length ce] 359) = w1 at HBX HO1 ⊢
   clear HO hP c0 hc1
   go_loopw [3, 6] (fun v x wi => ∃ k : Nat, x = .int .i64 k ∧ k % 2 = 0 ∧ k ≤ re.length ∧ RB wi P ry (.slice ae re.length ce) ∧ OwC w wi v (B0 ++ prs ry hh (re.take k))) (fun _ x _ => re.length - (numOf x).toNat)
   case atStart => exact ⟨0, rfl, rfl, by omega, HBX.out, by rw [List.take_zero, show prs ry hh [] = [] from rfl, List.append_nil]; exact HO1.out⟩
   case round =>
    obtain ⟨k, rfl, hk2, hkl, hbx, hO⟩ := hrel
    have HBX2 := hid hbx
    have HO2 := hid hO
    obtain ⟨t0, t1, _, _⟩ := hbx.all
    clear hbx hO HBX HO1
    by_cases hgo2 : k < re.length
    ·have e2 : decide ((k : Int) < re.length) = true := decide_eq_true (by omega)
     have hk1 : k + 1 < re.length := by omega
     have hk3 : (k : Int) < re.length := by omega
     have hk4 : (k : Int) + 1 < re.length := by omega
     obtain ⟨be, oe, rfl, hbe, hce⟩ := (HRE.out.on HO2.out.bel).pl (by omega)
     obtain ⟨p, hp⟩ : ∃ p, re[k]? = some p := ⟨_, List.getElem?_eq_getElem hgo2⟩
     obtain ⟨q, hq⟩ : ∃ q, re[k + 1]? = some q := ⟨_, List.getElem?_eq_getElem hk1⟩
     have d0 := hce k p hp
     have d1 := hce (k + 1) q hq
     obtain ⟨s, hsi, hi1, hhs⟩ := HB2.out (fun e => by rw [e] at hgo2; simp at hgo2)
     obtain ⟨b', off', s', hbo, _, hs', hws⟩ := (H.out.on HO2.out.bel).el hi1
     simp only [Option.some.injEq, Addr.mk.injEq, and_true] at hbo
     obtain ⟨rfl, rfl⟩ := hbo
     rw [hsi] at hs'
     cases hs'
     have HCI : Hid (CI wr b (off + (i + 1) * 2) s.1) := ⟨hws.lt, hws.c0⟩
     have HCP : Hid (CI wr be (oe + k) p) := ⟨hbe, d0⟩
     have HCQ : Hid (CI wr be (oe + (k + 1)) q) := ⟨hbe, d1⟩
     have hsy := HY.out s (List.mem_of_getElem? hsi)
     have hpx := HX1.out p (List.mem_of_getElem? hp)
     have hqx := HX1.out q (List.mem_of_getElem? hq)
     have HSN := hid (prs_two (y := ry) (h := hh) hk2 hp hq)
     have f1 : IntKind.i64.wrap (q - p) = q - p := by rw [IntKind.wrap_i64]; omega
     have f2 : IntKind.i64.wrap (s.1 - ry) = hh := by rw [IntKind.wrap_i64, hhs]; omega
     have f3 : IntKind.i64.wrap ((k : Int) + 1) = (k : Int) + 1 := by rw [IntKind.wrap_i64]; omega
     have f4 : IntKind.i64.wrap ((i : Int) + 1) = (i : Int) + 1 := by rw [IntKind.wrap_i64]; omega
     have f5 : (i : Int) + 1 < n := by omega
     have f6 : (0 : Int) ≤ (i : Int) + 1 := by omega
     have f7 : (0 : Int) ≤ (k : Int) + 1 := by omega
     have HLEN := HBL.out k
     clear hce hp hq hsi hws hhs
     go_upto_region 8 with fail
     clear t0 t1 d0 d1
     go_cut [7, 8] from 16 to 52 (fun x y wx => x = .int .i64 p ∧ y = .int .i64 q ∧ RowKit.Below wr.heap.size wr wx)
     case first =>
      refine wp_region_held_drew (S := fun x => Below wr.heap.size wr x) (by kernel_rfl) (Below.refl _ _).drew (fun hHeld => ?_)
      have hHeld : Below wr.heap.size wr wr.drew := hHeld
      refine wpAnyH_take (i := 0) (v := ?_) rfl (by kernel_rfl) (by kernel_rfl) (by kernel_rfl) (fun _ _ _ h => h) (Or.inl ⟨by kernel_rfl, ?hy0⟩) (by assumption) ?_
      case hy0 => (intro w hSw; (try dsimp only at hSw); obtain ⟨t00, t01, t02, t03⟩ := (HBX2.out.on hSw).all; obtain ⟨t10, t11, t12, t13⟩ := (HCP.out.on hSw).all; obtain ⟨t20, t21, t22, t23⟩ := (HCQ.out.on hSw).all; go_simp; try with_reducible rfl)
      try simp only [Act.put, List.getElem_toArray, List.getElem_cons_zero, List.setIfInBounds_toArray, List.set_cons_zero, List.set_cons_succ]
      refine wpAnyH_take (i := 1) (v := ?_) rfl (by kernel_rfl) (by kernel_rfl) (by kernel_rfl) (fun _ _ _ h => h) (Or.inl ⟨by kernel_rfl, ?hy1⟩) (by assumption) ?_
      case hy1 => (intro w hSw; (try dsimp only at hSw); obtain ⟨t00, t01, t02, t03⟩ := (HBX2.out.on hSw).all; obtain ⟨t10, t11, t12, t13⟩ := (HCP.out.on hSw).all; obtain ⟨t20, t21, t22, t23⟩ := (HCQ.out.on hSw).all; go_simp; try with_reducible rfl)
      try simp only [Act.put, List.getElem_toArray, List.getElem_cons_zero, List.getElem_cons_succ, List.setIfInBounds_toArray, List.set_cons_zero, List.set_cons_succ]
      refine wpAnyH_take (i := 2) (v := ?_) rfl (by kernel_rfl) (by kernel_rfl) (by kernel_rfl) (fun _ _ _ h => h) (Or.inl ⟨by kernel_rfl, ?hy2⟩) (by assumption) ?_
      case hy2 => (intro w hSw; (try dsimp only at hSw); obtain ⟨t00, t01, t02, t03⟩ := (HBX2.out.on hSw).all; obtain ⟨t10, t11, t12, t13⟩ := (HCP.out.on hSw).all; obtain ⟨t20, t21, t22, t23⟩ := (HCQ.out.on hSw).all; go_simp; try with_reducible rfl)
      try simp only [Act.put, List.getElem_toArray, List.getElem_cons_zero, List.getElem_cons_succ, List.setIfInBounds_toArray, List.set_cons_zero, List.set_cons_succ]
      refine wpAnyH_take (i := 3) (v := ?_) rfl (by kernel_rfl) (by kernel_rfl) (by kernel_rfl) (fun _ _ _ h => h) (Or.inl ⟨by kernel_rfl, ?hy3⟩) (by assumption) ?_
      case hy3 => (intro w hSw; (try dsimp only at hSw); obtain ⟨t00, t01, t02, t03⟩ := (HBX2.out.on hSw).all; obtain ⟨t10, t11, t12, t13⟩ := (HCP.out.on hSw).all; obtain ⟨t20, t21, t22, t23⟩ := (HCQ.out.on hSw).all; go_simp; try with_reducible rfl)
      try simp only [Act.put, List.getElem_toArray, List.getElem_cons_zero, List.getElem_cons_succ, List.setIfInBounds_toArray, List.set_cons_zero, List.set_cons_succ]
      refine wpAnyH_take (i := 4) (v := ?_) rfl (by kernel_rfl) (by kernel_rfl) (by kernel_rfl) (fun _ _ _ h => h) (Or.inl ⟨by kernel_rfl, ?hy4⟩) (by assumption) ?_
      case hy4 => (intro w hSw; (try dsimp only at hSw); obtain ⟨t00, t01, t02, t03⟩ := (HBX2.out.on hSw).all; obtain ⟨t10, t11, t12, t13⟩ := (HCP.out.on hSw).all; obtain ⟨t20, t21, t22, t23⟩ := (HCQ.out.on hSw).all; go_simp; try with_reducible rfl)
      try simp only [Act.put, List.getElem_toArray, List.getElem_cons_zero, List.getElem_cons_succ, List.setIfInBounds_toArray, List.set_cons_zero, List.set_cons_succ]
      refine wpAnyH_take (i := 5) (v := ?_) rfl (by kernel_rfl) (by kernel_rfl) (by kernel_rfl) (fun _ _ _ h => h) (Or.inl ⟨by kernel_rfl, ?hy5⟩) (by assumption) ?_
      case hy5 => (intro w hSw; (try dsimp only at hSw); obtain ⟨t00, t01, t02, t03⟩ := (HBX2.out.on hSw).all; obtain ⟨t10, t11, t12, t13⟩ := (HCP.out.on hSw).all; obtain ⟨t20, t21, t22, t23⟩ := (HCQ.out.on hSw).all; go_simp; try with_reducible rfl)
      try simp only [Act.put, List.getElem_toArray, List.getElem_cons_zero, List.getElem_cons_succ, List.setIfInBounds_toArray, List.set_cons_zero, List.set_cons_succ]
      refine wpAnyH_take (i := 6) (v := ?_) rfl (by kernel_rfl) (by kernel_rfl) (by kernel_rfl) (fun _ _ _ h => h) (Or.inl ⟨by kernel_rfl, ?hy6⟩) (by assumption) ?_
      case hy6 => (intro w hSw; (try dsimp only at hSw); obtain ⟨t00, t01, t02, t03⟩ := (HBX2.out.on hSw).all; obtain ⟨t10, t11, t12, t13⟩ := (HCP.out.on hSw).all; obtain ⟨t20, t21, t22, t23⟩ := (HCQ.out.on hSw).all; go_simp; try with_reducible rfl)
      try simp only [Act.put, List.getElem_toArray, List.getElem_cons_zero, List.getElem_cons_succ, List.setIfInBounds_toArray, List.set_cons_zero, List.set_cons_succ]
      refine wpAnyH_take (i := 7) (v := ?_) rfl (by kernel_rfl) (by kernel_rfl) (by kernel_rfl) (fun _ _ _ h => h) (Or.inl ⟨by kernel_rfl, ?hy7⟩) (by assumption) ?_
      case hy7 => (intro w hSw; (try dsimp only at hSw); obtain ⟨t00, t01, t02, t03⟩ := (HBX2.out.on hSw).all; obtain ⟨t10, t11, t12, t13⟩ := (HCP.out.on hSw).all; obtain ⟨t20, t21, t22, t23⟩ := (HCQ.out.on hSw).all; go_simp; try with_reducible rfl)
      try simp only [Act.put, List.getElem_toArray, List.getElem_cons_zero, List.getElem_cons_succ, List.setIfInBounds_toArray, List.set_cons_zero, List.set_cons_succ]
      refine wpAnyH_take (i := 8) (v := ?_) rfl (by kernel_rfl) (by kernel_rfl) (by kernel_rfl) (fun _ _ _ h => h) (Or.inl ⟨by kernel_rfl, ?hy8⟩) (by assumption) ?_
      case hy8 => (intro w hSw; (try dsimp only at hSw); obtain ⟨t00, t01, t02, t03⟩ := (HBX2.out.on hSw).all; obtain ⟨t10, t11, t12, t13⟩ := (HCP.out.on hSw).all; obtain ⟨t20, t21, t22, t23⟩ := (HCQ.out.on hSw).all; go_simp; try with_reducible rfl)
      try simp only [Act.put, List.getElem_toArray, List.getElem_cons_zero, List.getElem_cons_succ, List.setIfInBounds_toArray, List.set_cons_zero, List.set_cons_succ]
      refine wpAnyH_take (i := 9) (v := ?_) rfl (by kernel_rfl) (by kernel_rfl) (by kernel_rfl) (fun _ _ _ h => h) (Or.inl ⟨by kernel_rfl, ?hy9⟩) (by assumption) ?_
      case hy9 => (intro w hSw; (try dsimp only at hSw); obtain ⟨t00, t01, t02, t03⟩ := (HBX2.out.on hSw).all; obtain ⟨t10, t11, t12, t13⟩ := (HCP.out.on hSw).all; obtain ⟨t20, t21, t22, t23⟩ := (HCQ.out.on hSw).all; go_simp; try with_reducible rfl)
      try simp only [Act.put, List.getElem_toArray, List.getElem_cons_zero, List.getElem_cons_succ, List.setIfInBounds_toArray, List.set_cons_zero, List.set_cons_succ]
      refine wpAnyH_take (i := 10) (v := ?_) rfl (by kernel_rfl) (by kernel_rfl) (by kernel_rfl) (fun _ _ _ h => h) (Or.inl ⟨by kernel_rfl, ?hy10⟩) (by assumption) ?_
      case hy10 => (intro w hSw; (try dsimp only at hSw); obtain ⟨t00, t01, t02, t03⟩ := (HBX2.out.on hSw).all; obtain ⟨t10, t11, t12, t13⟩ := (HCP.out.on hSw).all; obtain ⟨t20, t21, t22, t23⟩ := (HCQ.out.on hSw).all; go_simp; try with_reducible rfl)
      try simp only [Act.put, List.getElem_toArray, List.getElem_cons_zero, List.getElem_cons_succ, List.setIfInBounds_toArray, List.set_cons_zero, List.set_cons_succ]
      refine wpAnyH_take (i := 11) (v := ?_) rfl (by kernel_rfl) (by kernel_rfl) (by kernel_rfl) (fun _ _ _ h => h) (Or.inl ⟨by kernel_rfl, ?hy11⟩) (by assumption) ?_
      case hy11 => (intro w hSw; (try dsimp only at hSw); obtain ⟨t00, t01, t02, t03⟩ := (HBX2.out.on hSw).all; obtain ⟨t10, t11, t12, t13⟩ := (HCP.out.on hSw).all; obtain ⟨t20, t21, t22, t23⟩ := (HCQ.out.on hSw).all; go_simp; try with_reducible rfl)
      try simp only [Act.put, List.getElem_toArray, List.getElem_cons_zero, List.getElem_cons_succ, List.setIfInBounds_toArray, List.set_cons_zero, List.set_cons_succ]
      refine wpAnyH_take (i := 12) (v := ?_) rfl (by kernel_rfl) (by kernel_rfl) (by kernel_rfl) (fun _ _ _ h => h) (Or.inl ⟨by kernel_rfl, ?hy12⟩) (by assumption) ?_
      case hy12 => (intro w hSw; (try dsimp only at hSw); obtain ⟨t00, t01, t02, t03⟩ := (HBX2.out.on hSw).all; obtain ⟨t10, t11, t12, t13⟩ := (HCP.out.on hSw).all; obtain ⟨t20, t21, t22, t23⟩ := (HCQ.out.on hSw).all; go_simp; try with_reducible rfl)
      try simp only [Act.put, List.getElem_toArray, List.getElem_cons_zero, List.getElem_cons_succ, List.setIfInBounds_toArray, List.set_cons_zero, List.set_cons_succ]
      refine wpAnyH_done (by kernel_rfl) ?_ _
      go_wp2_with fail
      go_meet
      exact ⟨rfl, rfl, hHeld⟩
     case rest =>
      obtain ⟨rfl, rfl, hbc⟩ := hcut
      have HCI3 := hid (HCI.out.on hbc)
      have HBX3 := hid (HBX2.out.on hbc)
      have HO3 := hid (HO2.out.on hbc)
      clear HCI HBX2 HO2 HCP HCQ hbc
      go_upto_region 9 with fail
      have hO4 := HO3.out
      have hSD : RB wc.drew P ry (.slice (some ⟨be, oe, none⟩) re.length ce) ∧ CI wc.drew b (off + (i + 1) * 2) s.1 := ⟨⟨HBX3.out.obj⟩, ⟨HCI3.out.lt, HCI3.out.c⟩⟩
      have HSR := hid (srcR wc.drew ⟨p, ry, q - p, hh⟩)
      have HOA := hid (hO4.on (u' := wc.drew.alloc (.cells #[.int .i64 p, .int .i64 ry, .int .i64 (q - p), .int .i64 hh] 97)) ((Below.refl _ _).drew.alloc (Nat.le_refl _) _))
      have hSA : RB (wc.drew.alloc (.cells #[.int .i64 p, .int .i64 ry, .int .i64 (q - p), .int .i64 hh] 97)) P ry (.slice (some ⟨be, oe, none⟩) re.length ce) ∧ CI (wc.drew.alloc (.cells #[.int .i64 p, .int .i64 ry, .int .i64 (q - p), .int .i64 hh] 97)) b (off + (i + 1) * 2) s.1 := ⟨hSD.1.on (below_new _ _), hSD.2.on (below_new _ _)⟩
      clear hO4 HCI3 HBX3 HO3
      have hHeld := hSD
      refine wp_region_held_drew (S := fun x => RB x P ry (.slice (some ⟨be, oe, none⟩) re.length ce) ∧ CI x b (off + (i + 1) * 2) s.1) (by kernel_rfl) hHeld (fun _ => ?_)
      refine wpAnyH_take (i := 0) (v := ?_) rfl (by kernel_rfl) (by kernel_rfl) (by kernel_rfl) (fun _ _ _ h => h) (Or.inl ⟨by kernel_rfl, ?hy0⟩) (by assumption) ?_
      case hy0 => (intro w hSw; (try dsimp only at hSw); obtain ⟨t00, t01, t02, t03⟩ := (hSw.1).all; obtain ⟨t10, t11, t12, t13⟩ := (hSw.2).all; go_simp; try with_reducible rfl)
      try simp only [Act.put, List.getElem_toArray, List.getElem_cons_zero, List.setIfInBounds_toArray, List.set_cons_zero, List.set_cons_succ]
      refine wpAnyH_take (i := 1) (v := ?_) rfl (by kernel_rfl) (by kernel_rfl) (by kernel_rfl) (fun _ _ _ h => h) (Or.inl ⟨by kernel_rfl, ?hy1⟩) (by assumption) ?_
      case hy1 => (intro w hSw; (try dsimp only at hSw); obtain ⟨t00, t01, t02, t03⟩ := (hSw.1).all; obtain ⟨t10, t11, t12, t13⟩ := (hSw.2).all; go_simp; try with_reducible rfl)
      try simp only [Act.put, List.getElem_toArray, List.getElem_cons_zero, List.getElem_cons_succ, List.setIfInBounds_toArray, List.set_cons_zero, List.set_cons_succ]
      refine wpAnyH_take (i := 2) (v := ?_) rfl (by kernel_rfl) (by kernel_rfl) (by kernel_rfl) (fun _ _ _ h => h) (Or.inl ⟨by kernel_rfl, ?hy2⟩) (by assumption) ?_
      case hy2 => (intro w hSw; (try dsimp only at hSw); obtain ⟨t00, t01, t02, t03⟩ := (hSw.1).all; obtain ⟨t10, t11, t12, t13⟩ := (hSw.2).all; go_simp; try with_reducible rfl)
      try simp only [Act.put, List.getElem_toArray, List.getElem_cons_zero, List.getElem_cons_succ, List.setIfInBounds_toArray, List.set_cons_zero, List.set_cons_succ]
      refine wpAnyH_take (i := 3) (v := ?_) rfl (by kernel_rfl) (by kernel_rfl) (by kernel_rfl) (fun _ _ _ h => h) (Or.inl ⟨by kernel_rfl, ?hy3⟩) (by assumption) ?_
      case hy3 => (intro w hSw; (try dsimp only at hSw); obtain ⟨t00, t01, t02, t03⟩ := (hSw.1).all; obtain ⟨t10, t11, t12, t13⟩ := (hSw.2).all; go_simp; try with_reducible rfl)
      try simp only [Act.put, List.getElem_toArray, List.getElem_cons_zero, List.getElem_cons_succ, List.setIfInBounds_toArray, List.set_cons_zero, List.set_cons_succ]
      refine wpAnyH_take (i := 4) (v := ?_) rfl (by kernel_rfl) (by kernel_rfl) (by kernel_rfl) (fun _ _ _ h => h) (Or.inl ⟨by kernel_rfl, ?hy4⟩) (by assumption) ?_
      case hy4 => (intro w hSw; (try dsimp only at hSw); obtain ⟨t00, t01, t02, t03⟩ := (hSw.1).all; obtain ⟨t10, t11, t12, t13⟩ := (hSw.2).all; go_simp; try with_reducible rfl)
      try simp only [Act.put, List.getElem_toArray, List.getElem_cons_zero, List.getElem_cons_succ, List.setIfInBounds_toArray, List.set_cons_zero, List.set_cons_succ]
      refine wpAnyH_take (i := 5) (v := ?_) rfl (by kernel_rfl) (by kernel_rfl) (by kernel_rfl) (fun _ _ _ h => h) (Or.inl ⟨by kernel_rfl, ?hy5⟩) (by assumption) ?_
      case hy5 => (intro w hSw; (try dsimp only at hSw); obtain ⟨t00, t01, t02, t03⟩ := (hSw.1).all; obtain ⟨t10, t11, t12, t13⟩ := (hSw.2).all; go_simp; try with_reducible rfl)
      try simp only [Act.put, List.getElem_toArray, List.getElem_cons_zero, List.getElem_cons_succ, List.setIfInBounds_toArray, List.set_cons_zero, List.set_cons_succ]
      refine wpAnyH_take (i := 6) (v := ?_) rfl (by kernel_rfl) (by kernel_rfl) (by kernel_rfl) (fun _ _ _ h => h) (Or.inl ⟨by kernel_rfl, ?hy6⟩) (by assumption) ?_
      case hy6 => (intro w hSw; (try dsimp only at hSw); obtain ⟨t00, t01, t02, t03⟩ := (hSw.1).all; obtain ⟨t10, t11, t12, t13⟩ := (hSw.2).all; go_simp; try with_reducible rfl)
      try simp only [Act.put, List.getElem_toArray, List.getElem_cons_zero, List.getElem_cons_succ, List.setIfInBounds_toArray, List.set_cons_zero, List.set_cons_succ]
      refine wpAnyH_take (i := 7) (v := ?_) rfl (by kernel_rfl) (by kernel_rfl) (by kernel_rfl) (fun _ _ _ h => h) (Or.inl ⟨by kernel_rfl, ?hy7⟩) (by assumption) ?_
      case hy7 => (intro w hSw; (try dsimp only at hSw); obtain ⟨t00, t01, t02, t03⟩ := (hSw.1).all; obtain ⟨t10, t11, t12, t13⟩ := (hSw.2).all; go_simp; try with_reducible rfl)
      try simp only [Act.put, List.getElem_toArray, List.getElem_cons_zero, List.getElem_cons_succ, List.setIfInBounds_toArray, List.set_cons_zero, List.set_cons_succ]
      refine wpAnyH_take (i := 8) (v := ?_) rfl (by kernel_rfl) (by kernel_rfl) (by kernel_rfl) (fun _ _ _ h => h) (Or.inl ⟨by kernel_rfl, ?hy8⟩) (by assumption) ?_
      case hy8 => (intro w hSw; (try dsimp only at hSw); obtain ⟨t00, t01, t02, t03⟩ := (hSw.1).all; obtain ⟨t10, t11, t12, t13⟩ := (hSw.2).all; go_simp; try with_reducible rfl)
      try simp only [Act.put, List.getElem_toArray, List.getElem_cons_zero, List.getElem_cons_succ, List.setIfInBounds_toArray, List.set_cons_zero, List.set_cons_succ]
      refine wpAnyH_take (i := 9) (v := ?_) rfl (by kernel_rfl) (by kernel_rfl) (by kernel_rfl) (fun _ _ _ h => h) (Or.inl ⟨by kernel_rfl, ?hy9⟩) (by assumption) ?_
      case hy9 => (intro w hSw; (try dsimp only at hSw); obtain ⟨t00, t01, t02, t03⟩ := (hSw.1).all; obtain ⟨t10, t11, t12, t13⟩ := (hSw.2).all; go_simp; try with_reducible rfl)
      try simp only [Act.put, List.getElem_toArray, List.getElem_cons_zero, List.getElem_cons_succ, List.setIfInBounds_toArray, List.set_cons_zero, List.set_cons_succ]
      refine wpAnyH_take (i := 10) (v := ?_) rfl (by kernel_rfl) (by kernel_rfl) (by kernel_rfl) (fun _ _ _ h => h) (Or.inl ⟨by kernel_rfl, ?hy10⟩) (by assumption) ?_
      case hy10 => (intro w hSw; (try dsimp only at hSw); obtain ⟨t00, t01, t02, t03⟩ := (hSw.1).all; obtain ⟨t10, t11, t12, t13⟩ := (hSw.2).all; go_simp; try with_reducible rfl)
      try simp only [Act.put, List.getElem_toArray, List.getElem_cons_zero, List.getElem_cons_succ, List.setIfInBounds_toArray, List.set_cons_zero, List.set_cons_succ]
      refine wpAnyH_take (i := 11) (v := ?_) rfl (by kernel_rfl) (by kernel_rfl) (by kernel_rfl) (fun _ _ _ h => h) (Or.inl ⟨by kernel_rfl, ?hy11⟩) (by assumption) ?_
      case hy11 => (intro w hSw; (try dsimp only at hSw); obtain ⟨t00, t01, t02, t03⟩ := (hSw.1).all; obtain ⟨t10, t11, t12, t13⟩ := (hSw.2).all; go_simp; try with_reducible rfl)
      try simp only [Act.put, List.getElem_toArray, List.getElem_cons_zero, List.getElem_cons_succ, List.setIfInBounds_toArray, List.set_cons_zero, List.set_cons_succ]
      refine wpAnyH_take (i := 12) (v := ?_) rfl (by kernel_rfl) (by kernel_rfl) (by kernel_rfl) (fun _ _ _ h => h) (Or.inl ⟨by kernel_rfl, ?hy12⟩) (by assumption) ?_
      case hy12 => (intro w hSw; (try dsimp only at hSw); obtain ⟨t00, t01, t02, t03⟩ := (hSw.1).all; obtain ⟨t10, t11, t12, t13⟩ := (hSw.2).all; go_simp; try with_reducible rfl)
      try simp only [Act.put, List.getElem_toArray, List.getElem_cons_zero, List.getElem_cons_succ, List.setIfInBounds_toArray, List.set_cons_zero, List.set_cons_succ]
      refine wpAnyH_take (i := 13) (v := ?_) rfl (by kernel_rfl) (by kernel_rfl) (by kernel_rfl) (fun _ _ _ h => h) (Or.inl ⟨by kernel_rfl, ?hy13⟩) (by assumption) ?_
      case hy13 => (intro w hSw; (try dsimp only at hSw); obtain ⟨t00, t01, t02, t03⟩ := (hSw.1).all; obtain ⟨t10, t11, t12, t13⟩ := (hSw.2).all; go_simp; try with_reducible rfl)
      try simp only [Act.put, List.getElem_toArray, List.getElem_cons_zero, List.getElem_cons_succ, List.setIfInBounds_toArray, List.set_cons_zero, List.set_cons_succ]
      refine wpAnyH_take (i := 14) (v := ?_) rfl (by kernel_rfl) (by kernel_rfl) (by kernel_rfl) (fun _ _ _ h => h) (Or.inl ⟨by kernel_rfl, ?hy14⟩) (by assumption) ?_
      case hy14 => (intro w hSw; (try dsimp only at hSw); obtain ⟨t00, t01, t02, t03⟩ := (hSw.1).all; obtain ⟨t10, t11, t12, t13⟩ := (hSw.2).all; go_simp; try with_reducible rfl)
      try simp only [Act.put, List.getElem_toArray, List.getElem_cons_zero, List.getElem_cons_succ, List.setIfInBounds_toArray, List.set_cons_zero, List.set_cons_succ]
      refine wpAnyH_take (i := 15) (v := ?_) rfl (by kernel_rfl) (by kernel_rfl) (by kernel_rfl) (fun _ _ _ h => h) (Or.inl ⟨by kernel_rfl, ?hy15⟩) (by assumption) ?_
      case hy15 => (intro w hSw; (try dsimp only at hSw); obtain ⟨t00, t01, t02, t03⟩ := (hSw.1).all; obtain ⟨t10, t11, t12, t13⟩ := (hSw.2).all; go_simp; try with_reducible rfl)
      try simp only [Act.put, List.getElem_toArray, List.getElem_cons_zero, List.getElem_cons_succ, List.setIfInBounds_toArray, List.set_cons_zero, List.set_cons_succ]
      refine wpAnyH_take (i := 16) (v := ?_) rfl (by kernel_rfl) (by kernel_rfl) (by kernel_rfl) (fun _ _ _ h => h) (Or.inl ⟨by kernel_rfl, ?hy16⟩) (by assumption) ?_
      case hy16 => (intro w hSw; (try dsimp only at hSw); obtain ⟨t00, t01, t02, t03⟩ := (hSw.1).all; obtain ⟨t10, t11, t12, t13⟩ := (hSw.2).all; go_simp; try with_reducible rfl)
      try simp only [Act.put, List.getElem_toArray, List.getElem_cons_zero, List.getElem_cons_succ, List.setIfInBounds_toArray, List.set_cons_zero, List.set_cons_succ]
      refine wpAnyH_ready (rs := [17]) (by kernel_rfl) (by simp) ?_
      refine AllReadyH.cons rfl (fun K hK => ?_) AllReadyH.nil
      go_simp
      refine hK.out _ _ hSA (fun _ => ?_)
      clear hK K hHeld hSD
      have hHeld := hSA
      refine wpAnyH_ready (rs := [18]) (by kernel_rfl) (by simp) ?_
      refine AllReadyH.cons rfl (fun K hK => ?_) AllReadyH.nil
      refine step_append_own_src_RgnP rfl (.tmp 34) (.tmp 51) 98 98 rfl w.heap.size 97 i0 (.agg #[.int .i64 0, .int .i64 0, .int .i64 0, .int .i64 0]) 4 32 Tryz.underlying98 hi hz0 hz1 hz2 rfl _ _ _ (by simp [Act.eval]) HOA.out.own _ 1 _ (by simp [Act.eval]) HSR.out (by simp only [maxLen]; omega) (fits32 (by omega)) HOA.out.size ?_
      intro v3 w3 o3 g3
      have HO5 := hid (HOA.out.grown (m := [⟨p, ry, q - p, hh⟩]) o3 g3)
      have HS5 : Hid (RB w3 P ry (.slice (some ⟨be, oe, none⟩) re.length ce) ∧ CI w3 b (off + (i + 1) * 2) s.1) := ⟨⟨by rw [g3.block P (Array.getElem?_eq_some_iff.1 hSA.1.obj).1 (own_ne_RgnP HOA.out.own hSA.1.obj (by decide))]; exact hSA.1.obj⟩, ⟨Nat.lt_of_lt_of_le hSA.2.lt g3.size, by rw [World.cell?_of_block (w := wc.drew.alloc _) (a := ⟨b, _, none⟩) (g3.block b hSA.2.lt (fun e => by have := (HOA.out.own.lt b e.symm).1; omega))]; exact hSA.2.c⟩⟩
      clear o3 g3
      refine hK.out _ _ HS5.out (fun _ => ?_)
      clear hK K hHeld
      have hHeld := HS5.out
      refine wpAnyH_take (i := 19) (v := ?_) rfl (by kernel_rfl) (by kernel_rfl) (by kernel_rfl) (fun _ _ _ h => h) (Or.inl ⟨by kernel_rfl, ?hy19⟩) (by assumption) ?_
      case hy19 => (intro w hSw; (try dsimp only at hSw); obtain ⟨t00, t01, t02, t03⟩ := (hSw.1).all; obtain ⟨t10, t11, t12, t13⟩ := (hSw.2).all; go_simp; try with_reducible rfl)
      try simp only [Act.put, List.getElem_toArray, List.getElem_cons_zero, List.getElem_cons_succ, List.setIfInBounds_toArray, List.set_cons_zero, List.set_cons_succ]
      refine wpAnyH_done (by kernel_rfl) ?_ _
      have HE5 : Hid (OwC w w3 v3 (B0 ++ prs ry hh (re.take (k + 2)))) := by
       have := HO5.out
       rw [List.append_assoc, ← HSN.out] at this
       exact this
      go_wp2
      go_roundw
      case rel => exact ⟨k + 2, by go_num, by omega, by omega, HS5.out.1, HE5.out⟩
      case measure => simp [numOf]; omega
    ·have e2 : decide ((k : Int) < re.length) = false := decide_eq_false (by omega)
     obtain rfl : k = re.length := by omega
     have HF := hid HO2.out
     rw [List.take_length, ← HB1.out] at HF
     clear HO2
     go_wp2
     go_roundw
     case rel => exact ⟨i + 1, by go_num, by omega, HF.out⟩
     case measure => simp [numOf]; omega
  ·have e1 : decide ((i : Int) < n) = false := decide_eq_false (by omega)
   obtain rfl : i = n := by omega
   have HF := hid HO.out
   rw [List.take_of_length_le (by rw [HL.out]; omega)] at HF
   clear HO
   go_wp2
   go_ret
   exact ⟨_, rfl, HF.out⟩
end
end Go.Proofs.YtpbgbpcdohdecaaGreatDoor
