/- Lemmas that the proof leans on. -/
import Derived.Test.YtdgknofpkafppaaGreatDoorB05
namespace Go.Proofs.YtdgknofpkafppaaGreatDoor
open Go Go.RowKit
set_option maxRecDepth 100000
set_option maxHeartbeats 1000000
section
theorem ret_bool {a b : Bool} (h : a = b) : Ending.returned (.bool a) = Ending.returned (.bool b) := by rw [h]
structure Sl where
 a : Option Addr
 n : Nat
 c : Nat
 l : List (List Int)
structure Sx where
 at_ : Bool
 buf : Int
 dm : Sl
 fr : Sl
 inp : Bool
 all : Bool
 rg : Sl
 ord : Bool
 od : Sl
 pl : Sl
def Sx.q (x : Sx) : Sq := ⟨x.at_, x.buf, x.dm.l, x.fr.l, x.inp, x.all, x.rg.l, x.ord, x.od.l, x.pl.l⟩
structure Sx.Ok (w : World) (x : Sx) : Prop where
 dm : RdM 4 w x.dm.a x.dm.n x.dm.c x.dm.l
 fr : RdM 1 w x.fr.a x.fr.n x.fr.c x.fr.l
 rg : RdM 4 w x.rg.a x.rg.n x.rg.c x.rg.l
 od : RdM 1 w x.od.a x.od.n x.od.c x.od.l
 pl : RdM 3 w x.pl.a x.pl.n x.pl.c x.pl.l
theorem Sx.Ok.on {w u : World} {x : Sx} (h : x.Ok w) (hb : Below w.heap.size w u) : x.Ok u := ⟨h.dm.on hb, h.fr.on hb, h.rg.on hb, h.od.on hb, h.pl.on hb⟩
def sl0 : Sl := ⟨none, 0, 0, []⟩
def sx0 : Sx := ⟨false, 0, sl0, sl0, false, false, sl0, false, sl0, sl0⟩
theorem sx0_q : sx0.q = sq0 := rfl
theorem sx0_ok (w : World) : sx0.Ok w := ⟨RdM.nil _ _, RdM.nil _ _, RdM.nil _ _, RdM.nil _ _, RdM.nil _ _⟩
def Sx.Len (x : Sx) (k : Nat) : Prop := x.dm.n ≤ k ∧ x.fr.n ≤ k ∧ x.rg.n ≤ k ∧ x.od.n ≤ k ∧ x.pl.n ≤ k
structure Bs (u : World) (p : Nat) (x : Sx) : Prop where
 bk : Bk u p 43 #[.bool x.at_, .int .i64 x.buf, .slice x.dm.a x.dm.n x.dm.c, .slice x.fr.a x.fr.n x.fr.c, .bool x.inp, .bool x.all, .slice x.rg.a x.rg.n x.rg.c, .bool x.ord, .slice x.od.a x.od.n x.od.c, .slice x.pl.a x.pl.n x.pl.c]
theorem Bs.all {u : World} {p : Nat} {x : Sx} (h : Bs u p x) : u.cell? ⟨p, 0, none⟩ = some (.bool x.at_) ∧ u.cell? ⟨p, 1, none⟩ = some (.int .i64 x.buf) ∧ u.cell? ⟨p, 2, none⟩ = some (.slice x.dm.a x.dm.n x.dm.c) ∧ u.cell? ⟨p, 3, none⟩ = some (.slice x.fr.a x.fr.n x.fr.c) ∧ u.cell? ⟨p, 4, none⟩ = some (.bool x.inp) ∧ u.cell? ⟨p, 5, none⟩ = some (.bool x.all) ∧ u.cell? ⟨p, 6, none⟩ = some (.slice x.rg.a x.rg.n x.rg.c) ∧ u.cell? ⟨p, 7, none⟩ = some (.bool x.ord) ∧ u.cell? ⟨p, 8, none⟩ = some (.slice x.od.a x.od.n x.od.c) ∧ u.cell? ⟨p, 9, none⟩ = some (.slice x.pl.a x.pl.n x.pl.c) :=
 ⟨h.bk.cell 0, h.bk.cell 1, h.bk.cell 2, h.bk.cell 3, h.bk.cell 4, h.bk.cell 5, h.bk.cell 6, h.bk.cell 7, h.bk.cell 8, h.bk.cell 9⟩
theorem Bs.lt {u : World} {p : Nat} {x : Sx} (h : Bs u p x) : p < u.heap.size := h.bk.lt
theorem Bs.fz {u : World} {p : Nat} {x : Sx} (h : Bs u p x) (k : Nat) : u.frozen? ⟨p, k, none⟩ = false := h.bk.fz k
theorem Bs.on {u v : World} {p : Nat} {x : Sx} (h : Bs u p x) (hb : Below u.heap.size u v) : Bs v p x := ⟨h.bk.on hb⟩
theorem Bs.other {u : World} {p q : Nat} {x : Sx} (h : Bs u p x) (hn : p ≠ q) (k : Nat) (v : Value) : Bs (u.setCell ⟨q, k, none⟩ v) p x := ⟨h.bk.other hn k v⟩
theorem bs_new (w : World) (x : Sx) : Bs (w.alloc (.cells #[.bool x.at_, .int .i64 x.buf, .slice x.dm.a x.dm.n x.dm.c, .slice x.fr.a x.fr.n x.fr.c, .bool x.inp, .bool x.all, .slice x.rg.a x.rg.n x.rg.c, .bool x.ord, .slice x.od.a x.od.n x.od.c, .slice x.pl.a x.pl.n x.pl.c] 43)) w.heap.size x := ⟨bk_new w _ _⟩
theorem sbox1 {w u : World} (x : Sx) (hb : Below (w.alloc (.cells #[.bool x.at_, .int .i64 x.buf, .slice x.dm.a x.dm.n x.dm.c, .slice x.fr.a x.fr.n x.fr.c, .bool x.inp, .bool x.all, .slice x.rg.a x.rg.n x.rg.c, .bool x.ord, .slice x.od.a x.od.n x.od.c, .slice x.pl.a x.pl.n x.pl.c] 43)).heap.size (w.alloc (.cells #[.bool x.at_, .int .i64 x.buf, .slice x.dm.a x.dm.n x.dm.c, .slice x.fr.a x.fr.n x.fr.c, .bool x.inp, .bool x.all, .slice x.rg.a x.rg.n x.rg.c, .bool x.ord, .slice x.od.a x.od.n x.od.c, .slice x.pl.a x.pl.n x.pl.c] 43)) u) : Bs u w.heap.size x ∧ Below w.heap.size w u := ⟨(bs_new w x).on hb, Below.on (bel_new _ _) hb⟩
theorem sbox2 {w u : World} (x y : Sx) (hb : Below ((w.alloc (.cells #[.bool x.at_, .int .i64 x.buf, .slice x.dm.a x.dm.n x.dm.c, .slice x.fr.a x.fr.n x.fr.c, .bool x.inp, .bool x.all, .slice x.rg.a x.rg.n x.rg.c, .bool x.ord, .slice x.od.a x.od.n x.od.c, .slice x.pl.a x.pl.n x.pl.c] 43)).alloc (.cells #[.bool y.at_, .int .i64 y.buf, .slice y.dm.a y.dm.n y.dm.c, .slice y.fr.a y.fr.n y.fr.c, .bool y.inp, .bool y.all, .slice y.rg.a y.rg.n y.rg.c, .bool y.ord, .slice y.od.a y.od.n y.od.c, .slice y.pl.a y.pl.n y.pl.c] 43)).heap.size ((w.alloc (.cells #[.bool x.at_, .int .i64 x.buf, .slice x.dm.a x.dm.n x.dm.c, .slice x.fr.a x.fr.n x.fr.c, .bool x.inp, .bool x.all, .slice x.rg.a x.rg.n x.rg.c, .bool x.ord, .slice x.od.a x.od.n x.od.c, .slice x.pl.a x.pl.n x.pl.c] 43)).alloc (.cells #[.bool y.at_, .int .i64 y.buf, .slice y.dm.a y.dm.n y.dm.c, .slice y.fr.a y.fr.n y.fr.c, .bool y.inp, .bool y.all, .slice y.rg.a y.rg.n y.rg.c, .bool y.ord, .slice y.od.a y.od.n y.od.c, .slice y.pl.a y.pl.n y.pl.c] 43)) u) : Bs u w.heap.size x ∧ Bs u (w.heap.size + 1) y ∧ Below w.heap.size w u := by
 obtain ⟨h1, h2⟩ := sbox1 y hb
 obtain ⟨h3, h4⟩ := sbox1 x h2
 rw [size_new] at h1
 exact ⟨h3, h1, h4⟩
theorem infoSt : (Tryz.prog.info? 43).map (·.size) = some 10 := by kernel_rfl
def sm (a b : Sq) : Bool := a.at_ == b.at_ && (a.buf == b.buf && (a.inp == b.inp && (a.all == b.all && (a.ord == b.ord && (leqs a.dm b.dm && (leqs a.fr b.fr && (leqs a.rg b.rg && (leqs a.od b.od && leqs a.pl b.pl))))))))
theorem sm_same (a : Sq) : sm a a = true := by simp [sm, leqs_same]
theorem sm_eq (a b : Sq) : sm a b = (a.at_ == b.at_ && (a.buf == b.buf && (a.inp == b.inp && (a.all == b.all && (a.ord == b.ord && (leqs a.dm b.dm && (leqs a.fr b.fr && (leqs a.rg b.rg && (leqs a.od b.od && leqs a.pl b.pl))))))))) := rfl
theorem ise (n : Nat) (l : List (List Int)) (h : l.length = n) : l.isEmpty = ((n : Int) == 0) := by
 cases l with
 | nil => simp at h; subst h; rfl
 | cons x l =>
  simp only [List.length_cons] at h
  rw [← h, Bool.eq_iff_iff]
  simp
  omega
theorem non_eq {x : Sx} {w : World} (ok : x.Ok w) : non x.q = (!x.at_ && (!x.inp && (!x.ord && (((x.dm.n : Int) == 0) && (((x.fr.n : Int) == 0) && ((x.pl.n : Int) == 0)))))) := by
 simp only [non, Sx.q, ise _ _ ok.dm.len, ise _ _ ok.fr.len, ise _ _ ok.pl.len]
theorem none_any (x : Sx) (w : World) (ok : x.Ok w) : Calls Tryz.prog 110 #[.agg #[.bool x.at_, .int .i64 x.buf, .slice x.dm.a x.dm.n x.dm.c, .slice x.fr.a x.fr.n x.fr.c, .bool x.inp, .bool x.all, .slice x.rg.a x.rg.n x.rg.c, .bool x.ord, .slice x.od.a x.od.n x.od.c, .slice x.pl.a x.pl.n x.pl.c]] w fun e w' => e = .returned (.bool (non x.q)) ∧ Below w.heap.size w w' := by
 have Ef := hid (non_eq ok)
 have s2 := ok.dm.small.1
 have s3 := ok.fr.small.1
 have s9 := ok.pl.small.1
 clear ok
 go_enter Tryz.func110, Tryz.ntmps110
 cases h0 : (x.at_)
 ·cases h4 : (x.inp)
  ·cases h7 : (x.ord)
   ·cases h2 : ((x.dm.n : Int) == 0)
    ·go_wp2
     go_ret
     exact ⟨ret_bool (by simp [Ef.out, h0, h4, h7, h2]), bel_new _ _⟩
    ·cases h3 : ((x.fr.n : Int) == 0)
     ·go_wp2
      go_ret
      exact ⟨ret_bool (by simp [Ef.out, h0, h4, h7, h2, h3]), bel_new _ _⟩
     ·cases h9 : ((x.pl.n : Int) == 0)
      ·go_wp2
       go_ret
       exact ⟨ret_bool (by simp [Ef.out, h0, h4, h7, h2, h3, h9]), bel_new _ _⟩
      ·go_wp2
       go_ret
       exact ⟨ret_bool (by simp [Ef.out, h0, h4, h7, h2, h3, h9]), bel_new _ _⟩
   ·go_wp2
    go_ret
    exact ⟨ret_bool (by simp [Ef.out, h0, h4, h7]), bel_new _ _⟩
  ·go_wp2
   go_ret
   exact ⟨ret_bool (by simp [Ef.out, h0, h4]), bel_new _ _⟩
 ·go_wp2
  go_ret
  exact ⟨ret_bool (by simp [Ef.out, h0]), bel_new _ _⟩
theorem rnone_any (x : Sx) (w : World) (ok : x.Ok w) : Calls Tryz.prog 120 #[.agg #[.bool x.at_, .int .i64 x.buf, .slice x.dm.a x.dm.n x.dm.c, .slice x.fr.a x.fr.n x.fr.c, .bool x.inp, .bool x.all, .slice x.rg.a x.rg.n x.rg.c, .bool x.ord, .slice x.od.a x.od.n x.od.c, .slice x.pl.a x.pl.n x.pl.c]] w fun e w' => e = .returned (.bool (non x.q)) ∧ Below w.heap.size w w' := by
 have Ef := hid (non_eq ok)
 have s2 := ok.dm.small.1
 have s3 := ok.fr.small.1
 have s9 := ok.pl.small.1
 clear ok
 go_enter Tryz.func120, Tryz.ntmps120
 cases h0 : (x.at_)
 ·cases h2 : ((x.dm.n : Int) == 0)
  ·go_wp2
   go_ret
   exact ⟨ret_bool (by simp [Ef.out, h0, h2]), bel_new _ _⟩
  ·cases h3 : ((x.fr.n : Int) == 0)
   ·go_wp2
    go_ret
    exact ⟨ret_bool (by simp [Ef.out, h0, h2, h3]), bel_new _ _⟩
   ·cases h4 : (x.inp)
    ·cases h7 : (x.ord)
     ·cases h9 : ((x.pl.n : Int) == 0)
      ·go_wp2
       go_ret
       exact ⟨ret_bool (by simp [Ef.out, h0, h2, h3, h4, h7, h9]), bel_new _ _⟩
      ·go_wp2
       go_ret
       exact ⟨ret_bool (by simp [Ef.out, h0, h2, h3, h4, h7, h9]), bel_new _ _⟩
     ·go_wp2
      go_ret
      exact ⟨ret_bool (by simp [Ef.out, h0, h2, h3, h4, h7]), bel_new _ _⟩
    ·go_wp2
     go_ret
     exact ⟨ret_bool (by simp [Ef.out, h0, h2, h3, h4]), bel_new _ _⟩
 ·go_wp2
  go_ret
  exact ⟨ret_bool (by simp [Ef.out, h0]), bel_new _ _⟩
end
section
theorem smx_eq (x y : Sx) : sm x.q y.q = (x.at_ == y.at_ && (x.buf == y.buf && (x.inp == y.inp && (x.all == y.all && (x.ord == y.ord && (leqs x.dm.l y.dm.l && (leqs x.fr.l y.fr.l && (leqs x.rg.l y.rg.l && (leqs x.od.l y.od.l && leqs x.pl.l y.pl.l))))))))) := sm_eq _ _
end
section
open Go
section
variable {P : Program} {ops : Array Oper} {Q : Exit → Act → World → Prop} {md : Region.Mode} {S : World → Prop}
def wpAnyG (P : Program) (md : Region.Mode) (ops : Array Oper) (Q : Exit → Act → World → Prop) (S : World → Prop) (g : Nat) : Nat → Array Bool → Act → World → Prop
 | 0, listed, a, w => Region.ready md ops listed = [] ∧ Q .normal a w
 | fuel + 1, listed, a, w =>
  (Region.ready md ops listed = [] → Q .normal a w) ∧
  ∀ i ∈ Region.ready md ops listed, wpOp P ops Q i (fun a' w' => ((listed.setIfInBounds i true).getD g true = false → S w') ∧ wpAnyG P md ops Q S g fuel (listed.setIfInBounds i true) a' w') a w
theorem wpAny_of_gate {g : Nat} : ∀ (fuel : Nat) (listed : Array Bool) (a : Act) (w : World), wpAnyG P md ops Q S g fuel listed a w → wpAny P md ops Q fuel listed a w
 | 0, _, _, _, h => h
 | fuel + 1, _, _, _, h => ⟨h.1, fun i hi => wpOp_mono (fun a' w' h' => wpAny_of_gate fuel _ a' w' h'.2) (h.2 i hi)⟩
def waits (md : Region.Mode) (ops : Array Oper) : Nat → Nat → Nat → Bool
 | 0, _, _ => false
 | k + 1, g, i => match ops[g]? with
  | some o => o.after.any fun e => Region.binds md e && ((e.on == i) || waits md ops k e.on i)
  | none => false
def closedB (md : Region.Mode) (ops : Array Oper) (listed : Array Bool) : Bool := (List.range ops.size).all fun j => !listed.getD j false || match ops[j]? with
 | some o => o.after.all fun e => !Region.binds md e || listed.getD e.on false
 | none => true
def Closed (md : Region.Mode) (ops : Array Oper) (listed : Array Bool) : Prop := ∀ (j : Nat) o, ops[j]? = some o → listed.getD j false = true → ∀ e ∈ o.after, Region.binds md e = true → listed.getD e.on false = true
theorem closed_of {listed : Array Bool} (h : closedB md ops listed = true) : Closed md ops listed := fun j o ho hl e he hb => by
 have hj : j < ops.size := (Array.getElem?_eq_some_iff.1 ho).1
 have h1 := List.all_eq_true.1 h j (List.mem_range.2 hj)
 rw [hl, ho] at h1
 simp only [Bool.not_true, Bool.false_or] at h1
 have h2 := Array.all_eq_true'.1 h1 e he
 rw [hb] at h2
 simpa using h2
theorem closed_set {listed : Array Bool} {j : Nat} (h : Closed md ops listed) (hj : j ∈ Region.ready md ops listed) : Closed md ops (listed.setIfInBounds j true) := fun k o ho hl e he hb => by
 obtain ⟨_, oj, hoj, hall⟩ := mem_ready.1 hj
 refine getD_set_true ?_
 by_cases hjk : j = k
 ·subst hjk
  rw [hoj] at ho
  cases ho
  exact hall e he hb
 ·rw [getD_set_ne false hjk] at hl
  exact h k o ho hl e he hb
theorem waits_deps {i : Nat} {listed : Array Bool} (hc : Closed md ops listed) (hi : listed.getD i false = false) : ∀ (k g : Nat), waits md ops k g i = true → ∀ o, ops[g]? = some o → ¬ ∀ e ∈ o.after, Region.binds md e = true → listed.getD e.on false = true
 | 0, _, hw, _, _ => by simp [waits] at hw
 | k + 1, g, hw, o, ho => fun hall => by
  rw [waits, ho] at hw
  obtain ⟨e, he, hb⟩ := Array.any_eq_true'.1 hw
  simp only [Bool.and_eq_true, Bool.or_eq_true, beq_iff_eq] at hb
  have h1 := hall e he hb.1
  rcases hb.2 with h2 | h2
  ·rw [h2, hi] at h1
   cases h1
  ·cases hoe : ops[e.on]? with
   | none =>
    cases k with
    | zero => simp [waits] at h2
    | succ k => rw [waits, hoe] at h2; cases h2
   | some o' => exact waits_deps hc hi k e.on h2 o' hoe (fun e' he' hb' => hc e.on o' hoe h1 e' he' hb')
theorem waits_not {k g i : Nat} {listed : Array Bool} (hc : Closed md ops listed) (hw : waits md ops k g i = true) (hr : i ∈ Region.ready md ops listed) : g ∉ Region.ready md ops listed := fun hg => by
 obtain ⟨h0, oi, hoi, _⟩ := mem_ready.1 hr
 obtain ⟨_, o, ho, hall⟩ := mem_ready.1 hg
 have hi : listed.getD i false = false := by
  rcases Nat.lt_or_ge i listed.size with h' | h'
  ·simp [h'] at h0 ⊢
   exact h0
  ·simp [Array.getElem?_eq_none h']
 exact waits_deps hc hi k g hw o ho hall
theorem wpAnyG_first {n i g : Nat} {oi : Oper} {v : Value} (hi : ops[i]? = some oi) (hgi : waits md ops n g i = true) (hsel : ∀ (j : Nat) (o : Oper) cs b, ops[j]? = some o → o.op ≠ .select cs b)
  (hQ : ∀ c a w, Q (.panic c) (a.put oi.dst v) w → Q (.panic c) a w) :
  ∀ (fuel : Nat) (listed : Array Bool) (a : Act) (w : World),
   (∀ j oj, ops[j]? = some oj → j ≠ i → listed.getD j true = false → (∀ e ∈ oj.after, Region.binds md e = true → e.on ≠ i) → oi.apart ops oj = true) →
   i ∈ Region.ready md ops listed → listed.getD g true = false → Closed md ops listed → YieldsIf P ops S oi v a → S w →
   wpAnyG P md ops Q S g fuel (listed.setIfInBounds i true) (a.put oi.dst v) w → wpAnyG P md ops Q S g (fuel + 1) listed a w := by
 intro fuel
 induction fuel with
 | zero =>
  intro listed a w _ hr _ _ hy hS H
  refine ⟨fun h => (by rw [h] at hr; cases hr), fun j hj => ?_⟩
  by_cases hji : j = i
  ·subst hji; exact hy.wpOp hi hS ⟨fun _ => hS, H⟩
  ·have := ready_mono hj hji
   rw [H.1] at this
   cases this
 | succ fuel ih =>
  intro listed a w hfree hr hlg hcl hy hS H
  refine ⟨fun h => (by rw [h] at hr; cases hr), fun j hj => ?_⟩
  by_cases hji : j = i
  ·subst hji; exact hy.wpOp hi hS ⟨fun _ => hS, H⟩
  ·have h1 := H.2 j (ready_mono hj hji)
   have hjg : j ≠ g := fun e => waits_not hcl hgi hr (by rw [← e]; exact hj)
   have hig : i ≠ g := fun e => waits_not hcl hgi hr (by rw [← e]; exact hr)
   have hl1 : ((listed.setIfInBounds i true).setIfInBounds j true).getD g true = false := by rw [getD_set_ne true hjg, getD_set_ne true hig]; exact hlg
   have hl2 : (listed.setIfInBounds j true).getD g true = false := by rw [getD_set_ne true hjg]; exact hlg
   obtain ⟨hjun, oj, hoj, hall⟩ := mem_ready.1 hj
   have hnot : ∀ e ∈ oj.after, Region.binds md e = true → e.on ≠ i := fun e he hb heq => by
    have h1 := hall e he hb
    have h0 := (mem_ready.1 hr).1
    rw [heq] at h1
    rcases Nat.lt_or_ge i listed.size with h' | h'
    ·simp [h'] at h0 h1; rw [h0] at h1; cases h1
    ·simp [Array.getElem?_eq_none h'] at h1
   have h2 := wpOp_putIf hoj (hfree j oj hoj hji hjun hnot) (fun cs b => hsel i oi cs b hi) (fun cs b => hsel j oj cs b hoj) hQ hy h1
   have hfree' : ∀ k ok, ops[k]? = some ok → k ≠ i → (listed.setIfInBounds j true).getD k true = false →
     (∀ e ∈ ok.after, Region.binds md e = true → e.on ≠ i) → oi.apart ops ok = true := fun k ok hk hki hun hno => by
    refine hfree k ok hk hki ?_ hno
    by_cases hjk : j = k
    ·subst hjk; exact hjun
    ·rw [getD_set_ne true hjk] at hun; exact hun
   refine wpOp_mono (fun a' w' h3 => ⟨fun _ => h3.2.1 hl1, ih (listed.setIfInBounds j true) a' w' hfree' (ready_mono hr (Ne.symm hji)) hl2 (closed_set hcl hj) h3.1 (h3.2.1 hl1) ?_⟩) h2
   rw [Array.setIfInBounds_comm _ _ hji]
   exact h3.2.2
theorem wpAnyG_take {i g : Nat} {oi : Oper} {v : Value} {fuel : Nat} {listed : Array Bool} {a : Act} {w : World} (hi : ops[i]? = some oi)
  (hs : Region.noSelect ops = true) (hf : Region.free md ops listed i = true) (hr : (Region.ready md ops listed).contains i = true) (hg : (waits md ops 6 g i && !listed.getD g true && closedB md ops listed) = true)
  (hQ : ∀ c a w, Q (.panic c) (a.put oi.dst v) w → Q (.panic c) a w) (hy : YieldsIf P ops S oi v a) (hS : S w)
  (h : wpAnyG P md ops Q S g fuel (listed.setIfInBounds i true) (a.put oi.dst v) w) : wpAnyG P md ops Q S g (fuel + 1) listed a w := by
 simp only [Bool.and_eq_true, Bool.not_eq_true'] at hg
 exact wpAnyG_first hi hg.1.1 (Region.noSelect_spec hs) hQ fuel listed a w (Region.free_spec hi hf) (by simpa using hr) hg.1.2 (closed_of hg.2) hy hS h
theorem wpAnyG_firstFree {i g : Nat} {oi : Oper} {v : Value} (hi : ops[i]? = some oi) (hig : i ≠ g) (hsel : ∀ (j : Nat) (o : Oper) cs b, ops[j]? = some o → o.op ≠ .select cs b)
  (hQ : ∀ c a w, Q (.panic c) (a.put oi.dst v) w → Q (.panic c) a w) :
  ∀ (fuel : Nat) (listed : Array Bool) (a : Act) (w : World),
   (∀ j oj, ops[j]? = some oj → j ≠ i → listed.getD j true = false → (∀ e ∈ oj.after, Region.binds md e = true → e.on ≠ i) → oi.apart ops oj = true) →
   i ∈ Region.ready md ops listed → YieldsIf P ops (fun _ => True) oi v a → (listed.getD g true = false → S w) →
   wpAnyG P md ops Q S g fuel (listed.setIfInBounds i true) (a.put oi.dst v) w → wpAnyG P md ops Q S g (fuel + 1) listed a w := by
 intro fuel
 induction fuel with
 | zero =>
  intro listed a w _ hr hy hS H
  refine ⟨fun h => (by rw [h] at hr; cases hr), fun j hj => ?_⟩
  by_cases hji : j = i
  ·subst hji
   exact hy.wpOp hi trivial ⟨fun hl => hS (by rw [getD_set_ne true hig] at hl; exact hl), H⟩
  ·have := ready_mono hj hji
   rw [H.1] at this
   cases this
 | succ fuel ih =>
  intro listed a w hfree hr hy hS H
  refine ⟨fun h => (by rw [h] at hr; cases hr), fun j hj => ?_⟩
  by_cases hji : j = i
  ·subst hji
   exact hy.wpOp hi trivial ⟨fun hl => hS (by rw [getD_set_ne true hig] at hl; exact hl), H⟩
  ·have h1 := H.2 j (ready_mono hj hji)
   obtain ⟨hjun, oj, hoj, hall⟩ := mem_ready.1 hj
   have hnot : ∀ e ∈ oj.after, Region.binds md e = true → e.on ≠ i := fun e he hb heq => by
    have h1 := hall e he hb
    have h0 := (mem_ready.1 hr).1
    rw [heq] at h1
    rcases Nat.lt_or_ge i listed.size with h' | h'
    ·simp [h'] at h0 h1; rw [h0] at h1; cases h1
    ·simp [Array.getElem?_eq_none h'] at h1
   have h2 := wpOp_putIf hoj (hfree j oj hoj hji hjun hnot) (fun cs b => hsel i oi cs b hi) (fun cs b => hsel j oj cs b hoj) hQ hy h1
   have hfree' : ∀ k ok, ops[k]? = some ok → k ≠ i → (listed.setIfInBounds j true).getD k true = false →
     (∀ e ∈ ok.after, Region.binds md e = true → e.on ≠ i) → oi.apart ops ok = true := fun k ok hk hki hun hno => by
    refine hfree k ok hk hki ?_ hno
    by_cases hjk : j = k
    ·subst hjk; exact hjun
    ·rw [getD_set_ne true hjk] at hun; exact hun
   have hl1 : (listed.setIfInBounds j true).getD g true = false → ((listed.setIfInBounds i true).setIfInBounds j true).getD g true = false := fun hl => by
    rw [Array.setIfInBounds_comm _ _ (Ne.symm hji), getD_set_ne true hig]
    exact hl
   refine wpOp_mono (fun a' w' h3 => ⟨fun hl => h3.2.1 (hl1 hl), ih (listed.setIfInBounds j true) a' w' hfree' (ready_mono hr (Ne.symm hji)) h3.1 (fun hl => h3.2.1 (hl1 hl)) ?_⟩) h2
   rw [Array.setIfInBounds_comm _ _ hji]
   exact h3.2.2
theorem wpAnyG_takeFree {i g : Nat} {oi : Oper} {v : Value} {fuel : Nat} {listed : Array Bool} {a : Act} {w : World} (hi : ops[i]? = some oi)
  (hs : Region.noSelect ops = true) (hf : Region.free md ops listed i = true) (hr : (Region.ready md ops listed).contains i = true) (hg : (!(i == g)) = true)
  (hQ : ∀ c a w, Q (.panic c) (a.put oi.dst v) w → Q (.panic c) a w) (hy : YieldsIf P ops (fun _ => True) oi v a) (hS : S w)
  (h : wpAnyG P md ops Q S g fuel (listed.setIfInBounds i true) (a.put oi.dst v) w) : wpAnyG P md ops Q S g (fuel + 1) listed a w :=
 wpAnyG_firstFree hi (by simpa using hg) (Region.noSelect_spec hs) hQ fuel listed a w (Region.free_spec hi hf) (by simpa using hr) hy (fun _ => hS) h
def AllReadyG (P : Program) (md : Region.Mode) (ops : Array Oper) (Q : Exit → Act → World → Prop) (S : World → Prop) (g fuel : Nat) (listed : Array Bool) (a : Act) (w : World) (rs : List Nat) : Prop :=
 ∀ i ∈ rs, wpOp P ops Q i (fun a' w' => S w' ∧ wpAnyG P md ops Q S g fuel (listed.setIfInBounds i true) a' w') a w
theorem AllReadyG.nil {g fuel : Nat} {listed : Array Bool} {a : Act} {w : World} : AllReadyG P md ops Q S g fuel listed a w [] := fun _ h => by cases h
theorem AllReadyG.cons {g fuel : Nat} {listed : Array Bool} {a : Act} {w : World} {i : Nat} {o : Oper} {rs : List Nat} (ho : ops[i]? = some o)
  (h : ∀ K' : Act → World → Prop, Shut (∀ a w, S w → (S w → wpAnyG P md ops Q S g fuel (listed.setIfInBounds i true) a w) → K' a w) → if Region.wanted o (yielded ops a.tmps) = true then Oper.wp P o a w K' Q else K' (a.put o.dst undef) w)
  (hs : AllReadyG P md ops Q S g fuel listed a w rs) : AllReadyG P md ops Q S g fuel listed a w (i :: rs) := fun j hj => by
 rcases List.mem_cons.1 hj with rfl | hj
 ·exact wpOp_step ho (fun K' hK => h K' (fun a w hS hW => hK a w ⟨hS, hW hS⟩))
 ·exact hs j hj
theorem wpAnyG_ready {g : Nat} {rs : List Nat} {fuel : Nat} {listed : Array Bool} {a : Act} {w : World} (hr : Region.ready md ops listed = rs) (hne : rs ≠ [])
  (h : AllReadyG P md ops Q S g fuel listed a w rs) : wpAnyG P md ops Q S g (fuel + 1) listed a w :=
 ⟨fun h0 => absurd (hr ▸ h0) hne, fun i hi => wpOp_mono (fun _ _ h' => ⟨fun _ => h'.1, h'.2⟩) (h i (hr ▸ hi))⟩
theorem wpAnyG_of_free {g : Nat} : ∀ {fuel : Nat} {listed : Array Bool} {a : Act} {w : World}, listed.getD g true = true → wpAnyH P md ops Q (fun _ => True) fuel listed a w → wpAnyG P md ops Q S g fuel listed a w
 | 0, _, _, _, _, h => h
 | fuel + 1, listed, _, _, hl, h => ⟨h.1, fun i hi => wpOp_mono (fun a' w' h' => by
   have hl' : (listed.setIfInBounds i true).getD g true = true := by
    by_cases hig : i = g
    ·subst hig
     rcases Nat.lt_or_ge i listed.size with h' | h' <;> simp [h']
    ·rw [getD_set_ne true hig]; exact hl
   exact ⟨fun h0 => (by rw [hl'] at h0; cases h0), wpAnyG_of_free hl' h'.2⟩) (h.2 i hi)⟩
theorem wpAnyG_gateOp {g : Nat} {og : Oper} {fuel : Nat} {listed : Array Bool} {a : Act} {w : World} (ho : ops[g]? = some og) (hr : Region.ready md ops listed = [g])
  (h : ∀ K' : Act → World → Prop, Shut (∀ a w, True → (True → wpAnyH P md ops Q (fun _ => True) fuel (listed.setIfInBounds g true) a w) → K' a w) → if Region.wanted og (yielded ops a.tmps) = true then Oper.wp P og a w K' Q else K' (a.put og.dst undef) w) :
  wpAnyG P md ops Q S g (fuel + 1) listed a w := by
 have hl : (listed.setIfInBounds g true).getD g true = true := by rcases Nat.lt_or_ge g listed.size with h' | h' <;> simp [h']
 refine ⟨fun h0 => (by rw [hr] at h0; cases h0), fun i hi' => ?_⟩
 rw [hr] at hi'
 simp only [List.mem_cons, List.not_mem_nil, or_false] at hi'
 subst hi'
 exact wpOp_step ho (fun K' hK => h K' (fun a w _ hW => hK a w ⟨fun h0 => (by rw [hl] at h0; cases h0), wpAnyG_of_free hl (hW trivial)⟩))
theorem wp_region_gate_drew {id g : Nat} {a : Act} {w : World} (hm : P.follows .mixedOrders = true) (hS : S w.drew)
  (h : S w.drew → wpAnyG P .any ops Q S g ops.size (Array.replicate ops.size false) a w.drew) : (Code.region id ops true).wp P Q a w :=
 wp_region_any hm (wpAny_of_gate _ _ _ _ (h hS))
end
theorem swap_ops {P : Program} {id : Nat} {ops ops' : Array Oper} {b : Bool} {Q : Exit → Act → World → Prop} {a : Act} {w : World} (h : ops = ops') (hw : (Code.region id ops' b).wp P Q a w) : (Code.region id ops b).wp P Q a w := by
 rw [h]
 exact hw
section
variable {P : Program} {ops : Array Oper} {Q : Exit → Act → World → Prop} {S : World → Prop}
theorem wp_region_seq {id : Nat} {l : List Nat} {a : Act} {w : World} (hl : List.range ops.size = l) (h : wpOps P ops Q l a w) : (Code.region id ops false).wp P Q a w := wp_region (by rw [hl]; exact h)
theorem wpOps_val {i : Nat} {oi : Oper} {v : Value} {rest : List Nat} {a : Act} {w : World} (hi : ops[i]? = some oi) (hy : YieldsIf P ops S oi v a) (hS : S w) (h : wpOps P ops Q rest (a.put oi.dst v) w) : wpOps P ops Q (i :: rest) a w := by
 rw [wpOps_cons]
 exact hy.wpOp hi hS h
theorem wpOps_end {a : Act} {w : World} (h : Q .normal a w) : wpOps P ops Q [] a w := h
end
theorem step_appG {P : Program} {ops : Array Oper} {o : Oper} {a : Act} {w : World} {K : Act → World → Prop} {Q : Exit → Act → World → Prop} {E : Prop}
  (hwt : Region.wanted o (yielded ops a.tmps) = true) (s x : Operand) (t tx : TypeId) (hop : o.op = .call { callee := .builtin .append, args := #[s, x], argTypes := #[t, tx] })
  (base : Nat) (e : TypeId) (i : TypeInfo) (z : Value) (size bytes : Nat) (ht : P.underlying t = some (.slice e)) (hi : P.info? e = some i) (hz : i.zero = some z)
  (hsize : i.size = size) (hby : i.bytes = bytes) (hzs : z.cells.size = size)
  (v : Value) (n : Nat) (xs : List Value) (hs : a.eval s = v) (hown : w.ownsRow base e size v n xs)
  (xv : Value) (m : Nat) (news : List Value) (hx : a.eval x = xv) (hsrc : Src P size tx xv m news w)
  (h63 : n + m ≤ maxLen) (hbytes : ∀ old, old < n + m → Builtin.nextslicecap (n + m) old * bytes ≤ 281474976710656) (hbase : base ≤ w.heap.size)
  (h : ∀ v' w', w'.ownsRow base e size v' (n + m) (xs ++ news) → w.grownBy w' v.ownBlock → K (a.put o.dst v') w') :
  if Region.wanted o (yielded ops a.tmps) = true then Oper.wp P o a w K Q else E := by
 rw [if_pos hwt]
 obtain ⟨v', w', hr, h2, h3⟩ := run_append_own_src (P := P) w base t tx o.type e i z size bytes ht hi hz hsize hby hzs v n xs hown xv m news hsrc h63 hbytes hbase
 unfold Oper.wp
 simp [execOp, hop, resolve, invoke, builtin, hs, hx, hr, Result.andThen]
 exact h v' w' h2 h3
end
end Go.Proofs.YtdgknofpkafppaaGreatDoor
