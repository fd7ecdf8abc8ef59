/- Lemmas that the proof leans on. -/
import Derived.Test.YtkjempffidndeaaGreatDoorB01
namespace Go.Proofs.YtkjempffidndeaaGreatDoor
open Go Go.RowKit
set_option maxRecDepth 100000
set_option maxHeartbeats 1000000
section
open Go
section
variable {P : Program} {ops : Array Oper} {Q : Exit → Act → World → Prop} {md : Region.Mode} {S : World → Prop}
def wpAnyG (P : Program) (md : Region.Mode) (ops : Array Oper) (Q : Exit → Act → World → Prop) (S : World → Prop) (g : Nat) : Nat → Array Bool → Act → World → Prop
 | 0, listed, a, w => Region.ready md ops listed = [] ∧ Q .normal a w
 | fuel + 1, listed, a, w =>
  (Region.ready md ops listed = [] → Q .normal a w) ∧
  ∀ i ∈ Region.ready md ops listed, wpOp P ops Q i (fun a' w' => ((listed.setIfInBounds i true).getD g true = false → S w') ∧ wpAnyG P md ops Q S g fuel (listed.setIfInBounds i true) a' w') a w
theorem wpAny_of_gate {g : Nat} : ∀ (fuel : Nat) (listed : Array Bool) (a : Act) (w : World), wpAnyG P md ops Q S g fuel listed a w → wpAny P md ops Q fuel listed a w
 | 0, _, _, _, h => h
 | fuel + 1, _, _, _, h => ⟨h.1, fun i hi => wpOp_mono (fun a' w' h' => wpAny_of_gate fuel _ a' w' h'.2) (h.2 i hi)⟩
def waits (md : Region.Mode) (ops : Array Oper) : Nat → Nat → Nat → Bool
 | 0, _, _ => false
 | k + 1, g, i => match ops[g]? with
  | some o => o.after.any fun e => Region.binds md e && ((e.on == i) || waits md ops k e.on i)
  | none => false
def closedB (md : Region.Mode) (ops : Array Oper) (listed : Array Bool) : Bool := (List.range ops.size).all fun j => !listed.getD j false || match ops[j]? with
 | some o => o.after.all fun e => !Region.binds md e || listed.getD e.on false
 | none => true
def Closed (md : Region.Mode) (ops : Array Oper) (listed : Array Bool) : Prop := ∀ (j : Nat) o, ops[j]? = some o → listed.getD j false = true → ∀ e ∈ o.after, Region.binds md e = true → listed.getD e.on false = true
theorem closed_of {listed : Array Bool} (h : closedB md ops listed = true) : Closed md ops listed := fun j o ho hl e he hb => by
 have hj : j < ops.size := (Array.getElem?_eq_some_iff.1 ho).1
 have h1 := List.all_eq_true.1 h j (List.mem_range.2 hj)
 rw [hl, ho] at h1
 simp only [Bool.not_true, Bool.false_or] at h1
 have h2 := Array.all_eq_true'.1 h1 e he
 rw [hb] at h2
 simpa using h2
theorem closed_set {listed : Array Bool} {j : Nat} (h : Closed md ops listed) (hj : j ∈ Region.ready md ops listed) : Closed md ops (listed.setIfInBounds j true) := fun k o ho hl e he hb => by
 obtain ⟨_, oj, hoj, hall⟩ := mem_ready.1 hj
 refine getD_set_true ?_
 by_cases hjk : j = k
 ·subst hjk
  rw [hoj] at ho
  cases ho
  exact hall e he hb
 ·rw [getD_set_ne false hjk] at hl
  exact h k o ho hl e he hb
theorem waits_deps {i : Nat} {listed : Array Bool} (hc : Closed md ops listed) (hi : listed.getD i false = false) : ∀ (k g : Nat), waits md ops k g i = true → ∀ o, ops[g]? = some o → ¬ ∀ e ∈ o.after, Region.binds md e = true → listed.getD e.on false = true
 | 0, _, hw, _, _ => by simp [waits] at hw
 | k + 1, g, hw, o, ho => fun hall => by
  rw [waits, ho] at hw
  obtain ⟨e, he, hb⟩ := Array.any_eq_true'.1 hw
  simp only [Bool.and_eq_true, Bool.or_eq_true, beq_iff_eq] at hb
  have h1 := hall e he hb.1
  rcases hb.2 with h2 | h2
  ·rw [h2, hi] at h1
   cases h1
  ·cases hoe : ops[e.on]? with
   | none =>
    cases k with
    | zero => simp [waits] at h2
    | succ k => rw [waits, hoe] at h2; cases h2
   | some o' => exact waits_deps hc hi k e.on h2 o' hoe (fun e' he' hb' => hc e.on o' hoe h1 e' he' hb')
theorem waits_not {k g i : Nat} {listed : Array Bool} (hc : Closed md ops listed) (hw : waits md ops k g i = true) (hr : i ∈ Region.ready md ops listed) : g ∉ Region.ready md ops listed := fun hg => by
 obtain ⟨h0, oi, hoi, _⟩ := mem_ready.1 hr
 obtain ⟨_, o, ho, hall⟩ := mem_ready.1 hg
 have hi : listed.getD i false = false := by
  rcases Nat.lt_or_ge i listed.size with h' | h'
  ·simp [h'] at h0 ⊢
   exact h0
  ·simp [Array.getElem?_eq_none h']
 exact waits_deps hc hi k g hw o ho hall
theorem wpAnyG_first {n i g : Nat} {oi : Oper} {v : Value} (hi : ops[i]? = some oi) (hgi : waits md ops n g i = true) (hsel : ∀ (j : Nat) (o : Oper) cs b, ops[j]? = some o → o.op ≠ .select cs b)
  (hQ : ∀ c a w, Q (.panic c) (a.put oi.dst v) w → Q (.panic c) a w) :
  ∀ (fuel : Nat) (listed : Array Bool) (a : Act) (w : World),
   (∀ j oj, ops[j]? = some oj → j ≠ i → listed.getD j true = false → (∀ e ∈ oj.after, Region.binds md e = true → e.on ≠ i) → oi.apart ops oj = true) →
   i ∈ Region.ready md ops listed → listed.getD g true = false → Closed md ops listed → YieldsIf P ops S oi v a → S w →
   wpAnyG P md ops Q S g fuel (listed.setIfInBounds i true) (a.put oi.dst v) w → wpAnyG P md ops Q S g (fuel + 1) listed a w := by
 intro fuel
 induction fuel with
 | zero =>
  intro listed a w _ hr _ _ hy hS H
  refine ⟨fun h => (by rw [h] at hr; cases hr), fun j hj => ?_⟩
  by_cases hji : j = i
  ·subst hji; exact hy.wpOp hi hS ⟨fun _ => hS, H⟩
  ·have := ready_mono hj hji
   rw [H.1] at this
   cases this
 | succ fuel ih =>
  intro listed a w hfree hr hlg hcl hy hS H
  refine ⟨fun h => (by rw [h] at hr; cases hr), fun j hj => ?_⟩
  by_cases hji : j = i
  ·subst hji; exact hy.wpOp hi hS ⟨fun _ => hS, H⟩
  ·have h1 := H.2 j (ready_mono hj hji)
   have hjg : j ≠ g := fun e => waits_not hcl hgi hr (by rw [← e]; exact hj)
   have hig : i ≠ g := fun e => waits_not hcl hgi hr (by rw [← e]; exact hr)
   have hl1 : ((listed.setIfInBounds i true).setIfInBounds j true).getD g true = false := by rw [getD_set_ne true hjg, getD_set_ne true hig]; exact hlg
   have hl2 : (listed.setIfInBounds j true).getD g true = false := by rw [getD_set_ne true hjg]; exact hlg
   obtain ⟨hjun, oj, hoj, hall⟩ := mem_ready.1 hj
   have hnot : ∀ e ∈ oj.after, Region.binds md e = true → e.on ≠ i := fun e he hb heq => by
    have h1 := hall e he hb
    have h0 := (mem_ready.1 hr).1
    rw [heq] at h1
    rcases Nat.lt_or_ge i listed.size with h' | h'
    ·simp [h'] at h0 h1; rw [h0] at h1; cases h1
    ·simp [Array.getElem?_eq_none h'] at h1
   have h2 := wpOp_putIf hoj (hfree j oj hoj hji hjun hnot) (fun cs b => hsel i oi cs b hi) (fun cs b => hsel j oj cs b hoj) hQ hy h1
   have hfree' : ∀ k ok, ops[k]? = some ok → k ≠ i → (listed.setIfInBounds j true).getD k true = false →
     (∀ e ∈ ok.after, Region.binds md e = true → e.on ≠ i) → oi.apart ops ok = true := fun k ok hk hki hun hno => by
    refine hfree k ok hk hki ?_ hno
    by_cases hjk : j = k
    ·subst hjk; exact hjun
    ·rw [getD_set_ne true hjk] at hun; exact hun
   refine wpOp_mono (fun a' w' h3 => ⟨fun _ => h3.2.1 hl1, ih (listed.setIfInBounds j true) a' w' hfree' (ready_mono hr (Ne.symm hji)) hl2 (closed_set hcl hj) h3.1 (h3.2.1 hl1) ?_⟩) h2
   rw [Array.setIfInBounds_comm _ _ hji]
   exact h3.2.2
theorem wpAnyG_take {i g : Nat} {oi : Oper} {v : Value} {fuel : Nat} {listed : Array Bool} {a : Act} {w : World} (hi : ops[i]? = some oi)
  (hs : Region.noSelect ops = true) (hf : Region.free md ops listed i = true) (hr : (Region.ready md ops listed).contains i = true) (hg : (waits md ops 6 g i && !listed.getD g true && closedB md ops listed) = true)
  (hQ : ∀ c a w, Q (.panic c) (a.put oi.dst v) w → Q (.panic c) a w) (hy : YieldsIf P ops S oi v a) (hS : S w)
  (h : wpAnyG P md ops Q S g fuel (listed.setIfInBounds i true) (a.put oi.dst v) w) : wpAnyG P md ops Q S g (fuel + 1) listed a w := by
 simp only [Bool.and_eq_true, Bool.not_eq_true'] at hg
 exact wpAnyG_first hi hg.1.1 (Region.noSelect_spec hs) hQ fuel listed a w (Region.free_spec hi hf) (by simpa using hr) hg.1.2 (closed_of hg.2) hy hS h
theorem wpAnyG_firstFree {i g : Nat} {oi : Oper} {v : Value} (hi : ops[i]? = some oi) (hig : i ≠ g) (hsel : ∀ (j : Nat) (o : Oper) cs b, ops[j]? = some o → o.op ≠ .select cs b)
  (hQ : ∀ c a w, Q (.panic c) (a.put oi.dst v) w → Q (.panic c) a w) :
  ∀ (fuel : Nat) (listed : Array Bool) (a : Act) (w : World),
   (∀ j oj, ops[j]? = some oj → j ≠ i → listed.getD j true = false → (∀ e ∈ oj.after, Region.binds md e = true → e.on ≠ i) → oi.apart ops oj = true) →
   i ∈ Region.ready md ops listed → YieldsIf P ops (fun _ => True) oi v a → (listed.getD g true = false → S w) →
   wpAnyG P md ops Q S g fuel (listed.setIfInBounds i true) (a.put oi.dst v) w → wpAnyG P md ops Q S g (fuel + 1) listed a w := by
 intro fuel
 induction fuel with
 | zero =>
  intro listed a w _ hr hy hS H
  refine ⟨fun h => (by rw [h] at hr; cases hr), fun j hj => ?_⟩
  by_cases hji : j = i
  ·subst hji
   exact hy.wpOp hi trivial ⟨fun hl => hS (by rw [getD_set_ne true hig] at hl; exact hl), H⟩
  ·have := ready_mono hj hji
   rw [H.1] at this
   cases this
 | succ fuel ih =>
  intro listed a w hfree hr hy hS H
  refine ⟨fun h => (by rw [h] at hr; cases hr), fun j hj => ?_⟩
  by_cases hji : j = i
  ·subst hji
   exact hy.wpOp hi trivial ⟨fun hl => hS (by rw [getD_set_ne true hig] at hl; exact hl), H⟩
  ·have h1 := H.2 j (ready_mono hj hji)
   obtain ⟨hjun, oj, hoj, hall⟩ := mem_ready.1 hj
   have hnot : ∀ e ∈ oj.after, Region.binds md e = true → e.on ≠ i := fun e he hb heq => by
    have h1 := hall e he hb
    have h0 := (mem_ready.1 hr).1
    rw [heq] at h1
    rcases Nat.lt_or_ge i listed.size with h' | h'
    ·simp [h'] at h0 h1; rw [h0] at h1; cases h1
    ·simp [Array.getElem?_eq_none h'] at h1
   have h2 := wpOp_putIf hoj (hfree j oj hoj hji hjun hnot) (fun cs b => hsel i oi cs b hi) (fun cs b => hsel j oj cs b hoj) hQ hy h1
   have hfree' : ∀ k ok, ops[k]? = some ok → k ≠ i → (listed.setIfInBounds j true).getD k true = false →
     (∀ e ∈ ok.after, Region.binds md e = true → e.on ≠ i) → oi.apart ops ok = true := fun k ok hk hki hun hno => by
    refine hfree k ok hk hki ?_ hno
    by_cases hjk : j = k
    ·subst hjk; exact hjun
    ·rw [getD_set_ne true hjk] at hun; exact hun
   have hl1 : (listed.setIfInBounds j true).getD g true = false → ((listed.setIfInBounds i true).setIfInBounds j true).getD g true = false := fun hl => by
    rw [Array.setIfInBounds_comm _ _ (Ne.symm hji), getD_set_ne true hig]
    exact hl
   refine wpOp_mono (fun a' w' h3 => ⟨fun hl => h3.2.1 (hl1 hl), ih (listed.setIfInBounds j true) a' w' hfree' (ready_mono hr (Ne.symm hji)) h3.1 (fun hl => h3.2.1 (hl1 hl)) ?_⟩) h2
   rw [Array.setIfInBounds_comm _ _ hji]
   exact h3.2.2
theorem wpAnyG_takeFree {i g : Nat} {oi : Oper} {v : Value} {fuel : Nat} {listed : Array Bool} {a : Act} {w : World} (hi : ops[i]? = some oi)
  (hs : Region.noSelect ops = true) (hf : Region.free md ops listed i = true) (hr : (Region.ready md ops listed).contains i = true) (hg : (!(i == g)) = true)
  (hQ : ∀ c a w, Q (.panic c) (a.put oi.dst v) w → Q (.panic c) a w) (hy : YieldsIf P ops (fun _ => True) oi v a) (hS : S w)
  (h : wpAnyG P md ops Q S g fuel (listed.setIfInBounds i true) (a.put oi.dst v) w) : wpAnyG P md ops Q S g (fuel + 1) listed a w :=
 wpAnyG_firstFree hi (by simpa using hg) (Region.noSelect_spec hs) hQ fuel listed a w (Region.free_spec hi hf) (by simpa using hr) hy (fun _ => hS) h
def AllReadyG (P : Program) (md : Region.Mode) (ops : Array Oper) (Q : Exit → Act → World → Prop) (S : World → Prop) (g fuel : Nat) (listed : Array Bool) (a : Act) (w : World) (rs : List Nat) : Prop :=
 ∀ i ∈ rs, wpOp P ops Q i (fun a' w' => S w' ∧ wpAnyG P md ops Q S g fuel (listed.setIfInBounds i true) a' w') a w
theorem AllReadyG.nil {g fuel : Nat} {listed : Array Bool} {a : Act} {w : World} : AllReadyG P md ops Q S g fuel listed a w [] := fun _ h => by cases h
theorem AllReadyG.cons {g fuel : Nat} {listed : Array Bool} {a : Act} {w : World} {i : Nat} {o : Oper} {rs : List Nat} (ho : ops[i]? = some o)
  (h : ∀ K' : Act → World → Prop, Shut (∀ a w, S w → (S w → wpAnyG P md ops Q S g fuel (listed.setIfInBounds i true) a w) → K' a w) → if Region.wanted o (yielded ops a.tmps) = true then Oper.wp P o a w K' Q else K' (a.put o.dst undef) w)
  (hs : AllReadyG P md ops Q S g fuel listed a w rs) : AllReadyG P md ops Q S g fuel listed a w (i :: rs) := fun j hj => by
 rcases List.mem_cons.1 hj with rfl | hj
 ·exact wpOp_step ho (fun K' hK => h K' (fun a w hS hW => hK a w ⟨hS, hW hS⟩))
 ·exact hs j hj
theorem wpAnyG_ready {g : Nat} {rs : List Nat} {fuel : Nat} {listed : Array Bool} {a : Act} {w : World} (hr : Region.ready md ops listed = rs) (hne : rs ≠ [])
  (h : AllReadyG P md ops Q S g fuel listed a w rs) : wpAnyG P md ops Q S g (fuel + 1) listed a w :=
 ⟨fun h0 => absurd (hr ▸ h0) hne, fun i hi => wpOp_mono (fun _ _ h' => ⟨fun _ => h'.1, h'.2⟩) (h i (hr ▸ hi))⟩
theorem wpAnyG_of_free {g : Nat} : ∀ {fuel : Nat} {listed : Array Bool} {a : Act} {w : World}, listed.getD g true = true → wpAnyH P md ops Q (fun _ => True) fuel listed a w → wpAnyG P md ops Q S g fuel listed a w
 | 0, _, _, _, _, h => h
 | fuel + 1, listed, _, _, hl, h => ⟨h.1, fun i hi => wpOp_mono (fun a' w' h' => by
   have hl' : (listed.setIfInBounds i true).getD g true = true := by
    by_cases hig : i = g
    ·subst hig
     rcases Nat.lt_or_ge i listed.size with h' | h' <;> simp [h']
    ·rw [getD_set_ne true hig]; exact hl
   exact ⟨fun h0 => (by rw [hl'] at h0; cases h0), wpAnyG_of_free hl' h'.2⟩) (h.2 i hi)⟩
theorem wpAnyG_gateOp {g : Nat} {og : Oper} {fuel : Nat} {listed : Array Bool} {a : Act} {w : World} (ho : ops[g]? = some og) (hr : Region.ready md ops listed = [g])
  (h : ∀ K' : Act → World → Prop, Shut (∀ a w, True → (True → wpAnyH P md ops Q (fun _ => True) fuel (listed.setIfInBounds g true) a w) → K' a w) → if Region.wanted og (yielded ops a.tmps) = true then Oper.wp P og a w K' Q else K' (a.put og.dst undef) w) :
  wpAnyG P md ops Q S g (fuel + 1) listed a w := by
 have hl : (listed.setIfInBounds g true).getD g true = true := by rcases Nat.lt_or_ge g listed.size with h' | h' <;> simp [h']
 refine ⟨fun h0 => (by rw [hr] at h0; cases h0), fun i hi' => ?_⟩
 rw [hr] at hi'
 simp only [List.mem_cons, List.not_mem_nil, or_false] at hi'
 subst hi'
 exact wpOp_step ho (fun K' hK => h K' (fun a w _ hW => hK a w ⟨fun h0 => (by rw [hl] at h0; cases h0), wpAnyG_of_free hl (hW trivial)⟩))
theorem wp_region_gate_drew {id g : Nat} {a : Act} {w : World} (hm : P.follows .mixedOrders = true) (hS : S w.drew)
  (h : S w.drew → wpAnyG P .any ops Q S g ops.size (Array.replicate ops.size false) a w.drew) : (Code.region id ops true).wp P Q a w :=
 wp_region_any hm (wpAny_of_gate _ _ _ _ (h hS))
end
theorem swap_ops {P : Program} {id : Nat} {ops ops' : Array Oper} {b : Bool} {Q : Exit → Act → World → Prop} {a : Act} {w : World} (h : ops = ops') (hw : (Code.region id ops' b).wp P Q a w) : (Code.region id ops b).wp P Q a w := by
 rw [h]
 exact hw
section
variable {P : Program} {ops : Array Oper} {Q : Exit → Act → World → Prop} {S : World → Prop}
end
theorem step_appG {P : Program} {ops : Array Oper} {o : Oper} {a : Act} {w : World} {K : Act → World → Prop} {Q : Exit → Act → World → Prop} {E : Prop}
  (hwt : Region.wanted o (yielded ops a.tmps) = true) (s x : Operand) (t tx : TypeId) (hop : o.op = .call { callee := .builtin .append, args := #[s, x], argTypes := #[t, tx] })
  (base : Nat) (e : TypeId) (i : TypeInfo) (z : Value) (size bytes : Nat) (ht : P.underlying t = some (.slice e)) (hi : P.info? e = some i) (hz : i.zero = some z)
  (hsize : i.size = size) (hby : i.bytes = bytes) (hzs : z.cells.size = size)
  (v : Value) (n : Nat) (xs : List Value) (hs : a.eval s = v) (hown : w.ownsRow base e size v n xs)
  (xv : Value) (m : Nat) (news : List Value) (hx : a.eval x = xv) (hsrc : Src P size tx xv m news w)
  (h63 : n + m ≤ maxLen) (hbytes : ∀ old, old < n + m → Builtin.nextslicecap (n + m) old * bytes ≤ 281474976710656) (hbase : base ≤ w.heap.size)
  (h : ∀ v' w', w'.ownsRow base e size v' (n + m) (xs ++ news) → w.grownBy w' v.ownBlock → K (a.put o.dst v') w') :
  if Region.wanted o (yielded ops a.tmps) = true then Oper.wp P o a w K Q else E := by
 rw [if_pos hwt]
 obtain ⟨v', w', hr, h2, h3⟩ := run_append_own_src (P := P) w base t tx o.type e i z size bytes ht hi hz hsize hby hzs v n xs hown xv m news hsrc h63 hbytes hbase
 unfold Oper.wp
 simp [execOp, hop, resolve, invoke, builtin, hs, hx, hr, Result.andThen]
 exact h v' w' h2 h3
end
section
section
variable {P : Program} (w : World)
theorem run_append_own_at (base : Nat) (t tx ty e : TypeId) (i : TypeInfo) (z : Value) (size bytes : Nat) (ht : P.underlying t = some (.slice e)) (hi : P.info? e = some i) (hz : i.zero = some z)
  (hsize : i.size = size) (hby : i.bytes = bytes) (hzs : z.cells.size = size)
  (v : Value) (n : Nat) (xs : List Value) (hown : w.ownsRow base e size v n xs)
  (x : Value) (m : Nat) (news : List Value) (hs : Src P size tx x m news w)
  (h63 : n + m ≤ maxLen) (hbytes : ∀ old, old < n + m → Builtin.nextslicecap (n + m) old * bytes ≤ 281474976710656) (hbase : base ≤ w.heap.size) :
  ∃ v' w', (Builtin.append_ #[t, tx] ty #[v, x]).run P w = .ok v' w' ∧ w'.ownsRow base e size v' (n + m) (xs ++ news) ∧ w.grownBy w' v.ownBlock ∧ (v'.ownBlock = v.ownBlock ∨ v'.ownBlock = some w.heap.size) := by
 obtain ⟨v', w', hr, h1, h2⟩ := run_append_own_src (P := P) w base t tx ty e i z size bytes ht hi hz hsize hby hzs v n xs hown x m news hs h63 hbytes hbase
 refine ⟨v', w', hr, h1, h2, ?_⟩
 subst hsize
 subst hby
 have hl := hs.newsLen
 have hsmall : n + m ≤ 9223372036854775807 := by simp only [maxLen] at h63; omega
 rcases hown.2 with ⟨rfl, rfl⟩ | ⟨g, cap, cur, rfl, hbg, hg, hnc, hcm, hcs, htake⟩
 ·by_cases hm : m = 0
  ·subst hm
   have hn : news = [] := List.eq_nil_of_length_eq_zero (by simpa using hl)
   subst hn
   have hr' : (Builtin.append_ #[t, tx] ty #[.slice none 0 0, x]).run P w = .ok (.slice none 0 0) w := by
    rcases hs.kind with ⟨e', hk⟩ | hk <;> simp [Builtin.append_, run_underlying ht, run_underlying hk, sizeOf, typeInfo, hi, hs.len, hs.cells]
   have := hr.symm.trans hr'
   simp only [Result.ok.injEq] at this
   exact .inl (by rw [this.1])
  ·have hr' := run_append_grow_src (P := P) w t tx ty e i z ht hi hz none 0 0 [] (run_firstCells_none w.drew i.size 0 0 0) x m news hs (by omega) (by omega) (hbytes _ (by omega))
   have := hr.symm.trans hr'
   simp only [Result.ok.injEq] at this
   exact .inr (by rw [this.1]; rfl)
 ·by_cases hroom : n + m ≤ cap
  ·have hfit : n * i.size + news.length ≤ cur.size := by rw [hl, hcs, ← Nat.add_mul]; exact Nat.mul_le_mul_right _ hroom
   have hr' := run_append_room_own (P := P) (ty := ty) w t tx e i ht hi g n cap cur hg x m news hs hroom hfit
   have := hr.symm.trans hr'
   simp only [Result.ok.injEq] at this
   exact .inl (by rw [this.1]; rfl)
  ·have holds : ∀ j u, xs[j]? = some u → w.cell? ((⟨g, 0, none⟩ : Addr).add j) = some u := hown.cells (g := g) rfl
   have hold := run_firstCells_some (P := P) w.drew i.size n ⟨g, 0, none⟩ n cap xs hown.1 (by simpa using holds)
   have hr' := run_append_grow_src (P := P) w t tx ty e i z ht hi hz (some ⟨g, 0, none⟩) n cap xs hold x m news hs (by omega) (by omega) (hbytes _ (by omega))
   have := hr.symm.trans hr'
   simp only [Result.ok.injEq] at this
   exact .inr (by rw [this.1]; rfl)
theorem wpList_append_own_at {ops : Array Oper} {rest : List Oper} {o : Oper} {a : Act} {Q : Exit → Act → World → Prop} (hgd : o.guard = none) (s x : Operand) (t tx : TypeId)
  (ho : o.op = .call { callee := .builtin .append, args := #[s, x], argTypes := #[t, tx] })
  (base : Nat) (e : TypeId) (i : TypeInfo) (z : Value) (size bytes : Nat) (ht : P.underlying t = some (.slice e)) (hi : P.info? e = some i) (hz : i.zero = some z)
  (hsize : i.size = size) (hby : i.bytes = bytes) (hzs : z.cells.size = size)
  (v : Value) (n : Nat) (xs : List Value) (hs : a.eval s = v) (hown : w.ownsRow base e size v n xs)
  (xv : Value) (m : Nat) (news : List Value) (hx : a.eval x = xv) (hsrc : Src P size tx xv m news w)
  (h63 : n + m ≤ maxLen) (hbytes : ∀ old, old < n + m → Builtin.nextslicecap (n + m) old * bytes ≤ 281474976710656) (hbase : base ≤ w.heap.size)
  (h : ∀ v' w', w'.ownsRow base e size v' (n + m) (xs ++ news) → w.grownBy w' v.ownBlock → (v'.ownBlock = v.ownBlock ∨ v'.ownBlock = some w.heap.size) → wpList P ops Q rest (a.put o.dst v') w') : wpList P ops Q (o :: rest) a w :=
 wpList_plain hgd fun K hK => by
  obtain ⟨v', w', hr, h2, h3, h4⟩ := run_append_own_at (P := P) w base t tx o.type e i z size bytes ht hi hz hsize hby hzs v n xs hown xv m news hsrc h63 hbytes hbase
  unfold Oper.wp execOp
  simp only [ho, resolve, invoke, builtin, Sem.run_bind, Sem.run_pure, Result.andThen_ok, List.map_toArray, List.map_cons, List.map_nil, hs, hx, hr]
  exact hK _ _ (h v' w' h2 h3 h4)
theorem step_appP {ops : Array Oper} {o : Oper} {a : Act} {K : Act → World → Prop} {Q : Exit → Act → World → Prop} {E : Prop}
  (hwt : Region.wanted o (yielded ops a.tmps) = true) (s x : Operand) (t tx : TypeId) (hop : o.op = .call { callee := .builtin .append, args := #[s, x], argTypes := #[t, tx] })
  (base : Nat) (e : TypeId) (i : TypeInfo) (z : Value) (size bytes : Nat) (ht : P.underlying t = some (.slice e)) (hi : P.info? e = some i) (hz : i.zero = some z)
  (hsize : i.size = size) (hby : i.bytes = bytes) (hzs : z.cells.size = size)
  (v : Value) (n : Nat) (xs : List Value) (hs : a.eval s = v) (hown : w.ownsRow base e size v n xs)
  (xv : Value) (m : Nat) (news : List Value) (hx : a.eval x = xv) (hsrc : Src P size tx xv m news w)
  (h63 : n + m ≤ maxLen) (hbytes : ∀ old, old < n + m → Builtin.nextslicecap (n + m) old * bytes ≤ 281474976710656) (hbase : base ≤ w.heap.size)
  (h : ∀ v' w', w'.ownsRow base e size v' (n + m) (xs ++ news) → w.grownBy w' v.ownBlock → (v'.ownBlock = v.ownBlock ∨ v'.ownBlock = some w.heap.size) → K (a.put o.dst v') w') :
  if Region.wanted o (yielded ops a.tmps) = true then Oper.wp P o a w K Q else E := by
 rw [if_pos hwt]
 obtain ⟨v', w', hr, h2, h3, h4⟩ := run_append_own_at (P := P) w base t tx o.type e i z size bytes ht hi hz hsize hby hzs v n xs hown xv m news hsrc h63 hbytes hbase
 unfold Oper.wp
 simp [execOp, hop, resolve, invoke, builtin, hs, hx, hr, Result.andThen]
 exact h v' w' h2 h3 h4
end
end
section
theorem RdM.el6 {w : World} {a : Option Addr} {n c : Nat} {l : List (List Int)} (h : RdM 6 w a n c l) {j : Nat} (hj : j < n) : ∃ b off z0 z1 z2 z3 z4 z5, a = some ⟨b, off, none⟩ ∧ b < w.heap.size ∧ l[j]? = some [z0, z1, z2, z3, z4, z5] ∧ w.cell? ⟨b, off + j * 6, none⟩ = some (.int .i64 z0) ∧ w.cell? ⟨b, off + j * 6 + 1, none⟩ = some (.int .i64 z1) ∧ w.cell? ⟨b, off + j * 6 + 2, none⟩ = some (.int .i64 z2) ∧ w.cell? ⟨b, off + j * 6 + 3, none⟩ = some (.int .i64 z3) ∧ w.cell? ⟨b, off + j * 6 + 4, none⟩ = some (.int .i64 z4) ∧ w.cell? ⟨b, off + j * 6 + 5, none⟩ = some (.int .i64 z5) := by
 obtain ⟨b, off, y, e, h1, h2, h3, h4⟩ := h.at_ hj
 match y, h3 with
 | [z0, z1, z2, z3, z4, z5], _ => exact ⟨b, off, z0, z1, z2, z3, z4, z5, e, h1, h2, by simpa using h4 0 z0 rfl, by simpa [Nat.add_assoc] using h4 1 z1 rfl, by simpa [Nat.add_assoc] using h4 2 z2 rfl, by simpa [Nat.add_assoc] using h4 3 z3 rfl, by simpa [Nat.add_assoc] using h4 4 z4 rfl, by simpa [Nat.add_assoc] using h4 5 z5 rfl⟩
theorem fits48 {need b : Nat} (h : need ≤ 1000000000) (hb : b ≤ 48) : ∀ old, old < need → Builtin.nextslicecap need old * b ≤ 281474976710656 := fun old ho => by
 have h1 := nextslicecap_near ho
 have h2 : Builtin.nextslicecap need old * b ≤ Builtin.nextslicecap need old * 48 := Nat.mul_le_mul_left _ hb
 omega
theorem eqlM6_guard (x y : Operand) (xs ys : Array Value) (w : World) : (eqGuard .eql 40 x y (.agg xs) (.agg ys)).run Tryz.prog w = .ok () w := run_eqGuard_agg w .eql 40 x y xs ys (by kernel_rfl)
theorem neqM6_guard (x y : Operand) (xs ys : Array Value) (w : World) : (eqGuard .neq 40 x y (.agg xs) (.agg ys)).run Tryz.prog w = .ok () w := run_eqGuard_agg w .neq 40 x y xs ys (by kernel_rfl)
theorem equalM6 (x0 x1 x2 x3 x4 x5 y0 y1 y2 y3 y4 y5 : Int) (w : World) : (Op.equalIn 10000 40 (.agg #[.int .i64 x0, .int .i64 x1, .int .i64 x2, .int .i64 x3, .int .i64 x4, .int .i64 x5]) (.agg #[.int .i64 y0, .int .i64 y1, .int .i64 y2, .int .i64 y3, .int .i64 y4, .int .i64 y5])).run Tryz.prog w = .ok (leq [x0, x1, x2, x3, x4, x5] [y0, y1, y2, y3, y4, y5]) w := by
 have u3 := Tryz.underlying3
 have a3 := Tryz.isAgg3
 have z3 := Tryz.sizeOf3
 have hS : Tryz.prog.underlying 40 = some (.struct (Tryz.prog.fieldsOf 40)) := by kernel_rfl
 have hp : Tryz.prog.stoodInHeld 40 = false := by kernel_rfl
 rw [show (10000 : Nat) = 9999 + 1 from rfl, run_equalIn_agg w 9999 40 _ _ hS hp]
 simp only [Program.fieldsOf, Tryz.underlying40]
 go_simp
 unfold leq
 by_cases h0 : x0 = y0 <;> by_cases h1 : x1 = y1 <;> by_cases h2 : x2 = y2 <;> by_cases h3 : x3 = y3 <;> by_cases h4 : x4 = y4 <;> by_cases h5 : x5 = y5 <;> simp [h0, h1, h2, h3, h4, h5]
theorem eqlM6 (x0 x1 x2 x3 x4 x5 y0 y1 y2 y3 y4 y5 : Int) (w : World) : (binOp .eql 40 (.agg #[.int .i64 x0, .int .i64 x1, .int .i64 x2, .int .i64 x3, .int .i64 x4, .int .i64 x5]) (.agg #[.int .i64 y0, .int .i64 y1, .int .i64 y2, .int .i64 y3, .int .i64 y4, .int .i64 y5])).run Tryz.prog w = .ok (.bool (leq [x0, x1, x2, x3, x4, x5] [y0, y1, y2, y3, y4, y5])) w := by
 rw [run_eql_struct, equalM6]
 rfl
theorem neqM6 (x0 x1 x2 x3 x4 x5 y0 y1 y2 y3 y4 y5 : Int) (w : World) : (binOp .neq 40 (.agg #[.int .i64 x0, .int .i64 x1, .int .i64 x2, .int .i64 x3, .int .i64 x4, .int .i64 x5]) (.agg #[.int .i64 y0, .int .i64 y1, .int .i64 y2, .int .i64 y3, .int .i64 y4, .int .i64 y5])).run Tryz.prog w = .ok (.bool (!leq [x0, x1, x2, x3, x4, x5] [y0, y1, y2, y3, y4, y5])) w := by
 rw [run_neq_struct, equalM6]
 rfl
theorem sameviews_any (a a' : Option Addr) (n c n' c' : Nat) (l m : List (List Int)) (w : World) (h : RdM 6 w a n c l) (h' : RdM 6 w a' n' c' m) :
  Calls Tryz.prog 10 #[.slice a n c, .slice a' n' c'] w fun e w' => e = .returned (.bool (leqs l m)) ∧ ∃ q, w' = w.drewN q := by
 have hl := h.len
 have hl' := h'.len
 have hn63 := h.small.1
 have hn63' := h'.small.1
 have hg := neqM6_guard
 have hne := neqM6
 by_cases hnn : n = n'
 ·subst hnn
  have H := hid h
  have H' := hid h'
  have HL := hid hl
  have HL' := hid hl'
  clear h h' hl hl'
  go_enter Tryz.func10, Tryz.ntmps10
  go_wp2
  go_loopw [5] (fun i wr => ∃ j : Nat, i = .int .i64 j ∧ j ≤ n ∧ leqs (l.drop j) (m.drop j) = leqs l m ∧ ∃ q, wr = w.drewN q) (fun i _ => n - (numOf i).toNat)
  case atStart => exact ⟨0, rfl, by omega, rfl, 0, rfl⟩
  case round =>
   obtain ⟨j, rfl, hj, hq, q, rfl⟩ := hrel
   by_cases hgo : j < n
   ·have e1 : decide ((j : Int) < n) = true := decide_eq_true (by omega)
    have e2 : (j : Int) < n := by omega
    obtain ⟨blx, offx, x0, x1, x2, x3, x4, x5, rfl, _, hx, c0, c1, c2, c3, c4, c5⟩ := H.out.el6 hgo
    obtain ⟨bly, offy, y0, y1, y2, y3, y4, y5, rfl, _, hy, d0, d1, d2, d3, d4, d5⟩ := H'.out.el6 hgo
    have HD : Hid (leqs l m = (leq [x0, x1, x2, x3, x4, x5] [y0, y1, y2, y3, y4, y5] && leqs (l.drop (j + 1)) (m.drop (j + 1)))) := by
     rw [Hid, ← hq, drop_at' hx, drop_at' hy, leqs_cons]
    clear hx hy hq
    have hn0 := hne x0 x1 x2 x3 x4 x5 y0 y1 y2 y3 y4 y5
    cases hs : leq [x0, x1, x2, x3, x4, x5] [y0, y1, y2, y3, y4, y5]
    ·rw [hs] at hn0
     have HE : Hid (leqs l m = false) := by rw [Hid, HD.out, hs]; rfl
     clear HD
     go_wp2
     go_quiet (fail)
     go_wp2
     go_ret
     rw [HE.out, World.drewN_drewN]
     exact ⟨rfl, _, rfl⟩
    ·rw [hs] at hn0
     have HE : Hid (leqs (l.drop (j + 1)) (m.drop (j + 1)) = leqs l m) := by rw [Hid, HD.out, hs]; rfl
     clear HD
     go_wp2
     go_quiet (fail)
     go_wp2
     go_roundw
     case rel => exact ⟨j + 1, by go_num, by omega, HE.out, _, rfl⟩
     case measure => simp [numOf]; omega
   ·have e1 : decide ((j : Int) < n) = false := decide_eq_false (by omega)
    have HE : Hid (leqs l m = true) := by
     rw [Hid, ← hq, List.drop_eq_nil_of_le (by rw [HL.out]; omega), List.drop_eq_nil_of_le (by rw [HL'.out]; omega)]
     rfl
    clear hq
    go_wp2
    go_ret
    rw [HE.out]
    exact ⟨rfl, _, rfl⟩
 ·have HE : Hid (leqs l m = false) := leqs_len (by omega)
  have e1 : ((n : Int) == n') = false := by simp; omega
  clear h h' hl hl'
  go_enter Tryz.func10, Tryz.ntmps10
  go_wp2
  go_ret
  rw [HE.out]
  exact ⟨rfl, 0, rfl⟩
theorem infoView : (Tryz.prog.info? 40).map (fun i => (i.zero, i.size, i.bytes)) = some (some (.agg #[.int .i64 0, .int .i64 0, .int .i64 0, .int .i64 0, .int .i64 0, .int .i64 0]), 6, 48) := by kernel_rfl
end
end Go.Proofs.YtkjempffidndeaaGreatDoor
