/- Regions that draw their order and end with stores: a condition that is held up to ONE operation (the gate), which waits for all that read. No program. -/
import Derived.Test.YtlkodgmnhphfcaaLibK
import Derived.Test.YtlkodgmnhphfcaaLibA
namespace Go.Proofs.Ytlkodgmnhphfcaa
open Go

section
variable {P : Program} {ops : Array Oper} {Q : Exit → Act → World → Prop} {md : Region.Mode} {S : World → Prop}

/-- Whatever order is picked from here on; S holds behind every operation that is carried out as long as g has not come up. -/
def wpAnyG (P : Program) (md : Region.Mode) (ops : Array Oper) (Q : Exit → Act → World → Prop) (S : World → Prop) (g : Nat) : Nat → Array Bool → Act → World → Prop
  | 0, listed, a, w => Region.ready md ops listed = [] ∧ Q .normal a w
  | fuel + 1, listed, a, w =>
    (Region.ready md ops listed = [] → Q .normal a w) ∧
    ∀ i ∈ Region.ready md ops listed, wpOp P ops Q i (fun a' w' => ((listed.setIfInBounds i true).getD g true = false → S w') ∧ wpAnyG P md ops Q S g fuel (listed.setIfInBounds i true) a' w') a w

theorem wpAny_of_gate {g : Nat} : ∀ (fuel : Nat) (listed : Array Bool) (a : Act) (w : World), wpAnyG P md ops Q S g fuel listed a w → wpAny P md ops Q fuel listed a w
  | 0, _, _, _, h => h
  | fuel + 1, _, _, _, h => ⟨h.1, fun i hi => wpOp_mono (fun a' w' h' => wpAny_of_gate fuel _ a' w' h'.2) (h.2 i hi)⟩

/-- g waits for i, through others too. -/
def waits (md : Region.Mode) (ops : Array Oper) : Nat → Nat → Nat → Bool
  | 0, _, _ => false
  | k + 1, g, i => match ops[g]? with
    | some o => o.after.any fun e => Region.binds md e && ((e.on == i) || waits md ops k e.on i)
    | none => false
/-- What has come up waited for nothing that has not. -/
def closedB (md : Region.Mode) (ops : Array Oper) (listed : Array Bool) : Bool := (List.range ops.size).all fun j => !listed.getD j false || match ops[j]? with
  | some o => o.after.all fun e => !Region.binds md e || listed.getD e.on false
  | none => true
def Closed (md : Region.Mode) (ops : Array Oper) (listed : Array Bool) : Prop := ∀ (j : Nat) o, ops[j]? = some o → listed.getD j false = true → ∀ e ∈ o.after, Region.binds md e = true → listed.getD e.on false = true
theorem closed_of {listed : Array Bool} (h : closedB md ops listed = true) : Closed md ops listed := fun j o ho hl e he hb => by
  have hj : j < ops.size := (Array.getElem?_eq_some_iff.1 ho).1
  have h1 := List.all_eq_true.1 h j (List.mem_range.2 hj)
  rw [hl, ho] at h1
  simp only [Bool.not_true, Bool.false_or] at h1
  have h2 := Array.all_eq_true'.1 h1 e he
  rw [hb] at h2
  simpa using h2
theorem closed_set {listed : Array Bool} {j : Nat} (h : Closed md ops listed) (hj : j ∈ Region.ready md ops listed) : Closed md ops (listed.setIfInBounds j true) := fun k o ho hl e he hb => by
  obtain ⟨_, oj, hoj, hall⟩ := mem_ready.1 hj
  refine getD_set_true ?_
  by_cases hjk : j = k
  · subst hjk
    rw [hoj] at ho
    cases ho
    exact hall e he hb
  · rw [getD_set_ne false hjk] at hl
    exact h k o ho hl e he hb
theorem waits_deps {i : Nat} {listed : Array Bool} (hc : Closed md ops listed) (hi : listed.getD i false = false) : ∀ (k g : Nat), waits md ops k g i = true → ∀ o, ops[g]? = some o → ¬ ∀ e ∈ o.after, Region.binds md e = true → listed.getD e.on false = true
  | 0, _, hw, _, _ => by simp [waits] at hw
  | k + 1, g, hw, o, ho => fun hall => by
    rw [waits, ho] at hw
    obtain ⟨e, he, hb⟩ := Array.any_eq_true'.1 hw
    simp only [Bool.and_eq_true, Bool.or_eq_true, beq_iff_eq] at hb
    have h1 := hall e he hb.1
    rcases hb.2 with h2 | h2
    · rw [h2, hi] at h1
      cases h1
    · cases hoe : ops[e.on]? with
      | none =>
        cases k with
        | zero => simp [waits] at h2
        | succ k => rw [waits, hoe] at h2; cases h2
      | some o' => exact waits_deps hc hi k e.on h2 o' hoe (fun e' he' hb' => hc e.on o' hoe h1 e' he' hb')
theorem waits_not {k g i : Nat} {listed : Array Bool} (hc : Closed md ops listed) (hw : waits md ops k g i = true) (hr : i ∈ Region.ready md ops listed) : g ∉ Region.ready md ops listed := fun hg => by
  obtain ⟨h0, oi, hoi, _⟩ := mem_ready.1 hr
  obtain ⟨_, o, ho, hall⟩ := mem_ready.1 hg
  have hi : listed.getD i false = false := by
    rcases Nat.lt_or_ge i listed.size with h' | h'
    · simp [h'] at h0 ⊢
      exact h0
    · simp [Array.getElem?_eq_none h']
  exact waits_deps hc hi k g hw o ho hall

theorem wpAnyG_first {n i g : Nat} {oi : Oper} {v : Value} (hi : ops[i]? = some oi) (hgi : waits md ops n g i = true) (hsel : ∀ (j : Nat) (o : Oper) cs b, ops[j]? = some o → o.op ≠ .select cs b)
    (hQ : ∀ c a w, Q (.panic c) (a.put oi.dst v) w → Q (.panic c) a w) :
    ∀ (fuel : Nat) (listed : Array Bool) (a : Act) (w : World),
      (∀ j oj, ops[j]? = some oj → j ≠ i → listed.getD j true = false → (∀ e ∈ oj.after, Region.binds md e = true → e.on ≠ i) → oi.apart ops oj = true) →
      i ∈ Region.ready md ops listed → listed.getD g true = false → Closed md ops listed → YieldsIf P ops S oi v a → S w →
      wpAnyG P md ops Q S g fuel (listed.setIfInBounds i true) (a.put oi.dst v) w → wpAnyG P md ops Q S g (fuel + 1) listed a w := by
  intro fuel
  induction fuel with
  | zero =>
    intro listed a w _ hr _ _ hy hS H
    refine ⟨fun h => (by rw [h] at hr; cases hr), fun j hj => ?_⟩
    by_cases hji : j = i
    · subst hji; exact hy.wpOp hi hS ⟨fun _ => hS, H⟩
    · have := ready_mono hj hji
      rw [H.1] at this
      cases this
  | succ fuel ih =>
    intro listed a w hfree hr hlg hcl hy hS H
    refine ⟨fun h => (by rw [h] at hr; cases hr), fun j hj => ?_⟩
    by_cases hji : j = i
    · subst hji; exact hy.wpOp hi hS ⟨fun _ => hS, H⟩
    · have h1 := H.2 j (ready_mono hj hji)
      have hjg : j ≠ g := fun e => waits_not hcl hgi hr (by rw [← e]; exact hj)
      have hig : i ≠ g := fun e => waits_not hcl hgi hr (by rw [← e]; exact hr)
      have hl1 : ((listed.setIfInBounds i true).setIfInBounds j true).getD g true = false := by rw [getD_set_ne true hjg, getD_set_ne true hig]; exact hlg
      have hl2 : (listed.setIfInBounds j true).getD g true = false := by rw [getD_set_ne true hjg]; exact hlg
      obtain ⟨hjun, oj, hoj, hall⟩ := mem_ready.1 hj
      have hnot : ∀ e ∈ oj.after, Region.binds md e = true → e.on ≠ i := fun e he hb heq => by
        have h1 := hall e he hb
        have h0 := (mem_ready.1 hr).1
        rw [heq] at h1
        rcases Nat.lt_or_ge i listed.size with h' | h'
        · simp [h'] at h0 h1; rw [h0] at h1; cases h1
        · simp [Array.getElem?_eq_none h'] at h1
      have h2 := wpOp_putIf hoj (hfree j oj hoj hji hjun hnot) (fun cs b => hsel i oi cs b hi) (fun cs b => hsel j oj cs b hoj) hQ hy h1
      have hfree' : ∀ k ok, ops[k]? = some ok → k ≠ i → (listed.setIfInBounds j true).getD k true = false →
          (∀ e ∈ ok.after, Region.binds md e = true → e.on ≠ i) → oi.apart ops ok = true := fun k ok hk hki hun hno => by
        refine hfree k ok hk hki ?_ hno
        by_cases hjk : j = k
        · subst hjk; exact hjun
        · rw [getD_set_ne true hjk] at hun; exact hun
      refine wpOp_mono (fun a' w' h3 => ⟨fun _ => h3.2.1 hl1, ih (listed.setIfInBounds j true) a' w' hfree' (ready_mono hr (Ne.symm hji)) hl2 (closed_set hcl hj) h3.1 (h3.2.1 hl1) ?_⟩) h2
      rw [Array.setIfInBounds_comm _ _ hji]
      exact h3.2.2

/-- Take number i first: the gate waits for it. -/
theorem wpAnyG_take {i g : Nat} {oi : Oper} {v : Value} {fuel : Nat} {listed : Array Bool} {a : Act} {w : World} (hi : ops[i]? = some oi)
    (hs : Region.noSelect ops = true) (hf : Region.free md ops listed i = true) (hr : (Region.ready md ops listed).contains i = true) (hg : (waits md ops 6 g i && !listed.getD g true && closedB md ops listed) = true)
    (hQ : ∀ c a w, Q (.panic c) (a.put oi.dst v) w → Q (.panic c) a w) (hy : YieldsIf P ops S oi v a) (hS : S w)
    (h : wpAnyG P md ops Q S g fuel (listed.setIfInBounds i true) (a.put oi.dst v) w) : wpAnyG P md ops Q S g (fuel + 1) listed a w := by
  simp only [Bool.and_eq_true, Bool.not_eq_true'] at hg
  exact wpAnyG_first hi hg.1.1 (Region.noSelect_spec hs) hQ fuel listed a w (Region.free_spec hi hf) (by simpa using hr) hg.1.2 (closed_of hg.2) hy hS h

/-- Take number i first, though the gate does not wait for it: it yields in whatever world. -/
theorem wpAnyG_firstFree {i g : Nat} {oi : Oper} {v : Value} (hi : ops[i]? = some oi) (hig : i ≠ g) (hsel : ∀ (j : Nat) (o : Oper) cs b, ops[j]? = some o → o.op ≠ .select cs b)
    (hQ : ∀ c a w, Q (.panic c) (a.put oi.dst v) w → Q (.panic c) a w) :
    ∀ (fuel : Nat) (listed : Array Bool) (a : Act) (w : World),
      (∀ j oj, ops[j]? = some oj → j ≠ i → listed.getD j true = false → (∀ e ∈ oj.after, Region.binds md e = true → e.on ≠ i) → oi.apart ops oj = true) →
      i ∈ Region.ready md ops listed → YieldsIf P ops (fun _ => True) oi v a → (listed.getD g true = false → S w) →
      wpAnyG P md ops Q S g fuel (listed.setIfInBounds i true) (a.put oi.dst v) w → wpAnyG P md ops Q S g (fuel + 1) listed a w := by
  intro fuel
  induction fuel with
  | zero =>
    intro listed a w _ hr hy hS H
    refine ⟨fun h => (by rw [h] at hr; cases hr), fun j hj => ?_⟩
    by_cases hji : j = i
    · subst hji
      exact hy.wpOp hi trivial ⟨fun hl => hS (by rw [getD_set_ne true hig] at hl; exact hl), H⟩
    · have := ready_mono hj hji
      rw [H.1] at this
      cases this
  | succ fuel ih =>
    intro listed a w hfree hr hy hS H
    refine ⟨fun h => (by rw [h] at hr; cases hr), fun j hj => ?_⟩
    by_cases hji : j = i
    · subst hji
      exact hy.wpOp hi trivial ⟨fun hl => hS (by rw [getD_set_ne true hig] at hl; exact hl), H⟩
    · have h1 := H.2 j (ready_mono hj hji)
      obtain ⟨hjun, oj, hoj, hall⟩ := mem_ready.1 hj
      have hnot : ∀ e ∈ oj.after, Region.binds md e = true → e.on ≠ i := fun e he hb heq => by
        have h1 := hall e he hb
        have h0 := (mem_ready.1 hr).1
        rw [heq] at h1
        rcases Nat.lt_or_ge i listed.size with h' | h'
        · simp [h'] at h0 h1; rw [h0] at h1; cases h1
        · simp [Array.getElem?_eq_none h'] at h1
      have h2 := wpOp_putIf hoj (hfree j oj hoj hji hjun hnot) (fun cs b => hsel i oi cs b hi) (fun cs b => hsel j oj cs b hoj) hQ hy h1
      have hfree' : ∀ k ok, ops[k]? = some ok → k ≠ i → (listed.setIfInBounds j true).getD k true = false →
          (∀ e ∈ ok.after, Region.binds md e = true → e.on ≠ i) → oi.apart ops ok = true := fun k ok hk hki hun hno => by
        refine hfree k ok hk hki ?_ hno
        by_cases hjk : j = k
        · subst hjk; exact hjun
        · rw [getD_set_ne true hjk] at hun; exact hun
      have hl1 : (listed.setIfInBounds j true).getD g true = false → ((listed.setIfInBounds i true).setIfInBounds j true).getD g true = false := fun hl => by
        rw [Array.setIfInBounds_comm _ _ (Ne.symm hji), getD_set_ne true hig]
        exact hl
      refine wpOp_mono (fun a' w' h3 => ⟨fun hl => h3.2.1 (hl1 hl), ih (listed.setIfInBounds j true) a' w' hfree' (ready_mono hr (Ne.symm hji)) h3.1 (fun hl => h3.2.1 (hl1 hl)) ?_⟩) h2
      rw [Array.setIfInBounds_comm _ _ hji]
      exact h3.2.2
theorem wpAnyG_takeFree {i g : Nat} {oi : Oper} {v : Value} {fuel : Nat} {listed : Array Bool} {a : Act} {w : World} (hi : ops[i]? = some oi)
    (hs : Region.noSelect ops = true) (hf : Region.free md ops listed i = true) (hr : (Region.ready md ops listed).contains i = true) (hg : (!(i == g)) = true)
    (hQ : ∀ c a w, Q (.panic c) (a.put oi.dst v) w → Q (.panic c) a w) (hy : YieldsIf P ops (fun _ => True) oi v a) (hS : S w)
    (h : wpAnyG P md ops Q S g fuel (listed.setIfInBounds i true) (a.put oi.dst v) w) : wpAnyG P md ops Q S g (fuel + 1) listed a w :=
  wpAnyG_firstFree hi (by simpa using hg) (Region.noSelect_spec hs) hQ fuel listed a w (Region.free_spec hi hf) (by simpa using hr) hy (fun _ => hS) h

/-- Each of the operations rs comes up next; behind it S holds. -/
def AllReadyG (P : Program) (md : Region.Mode) (ops : Array Oper) (Q : Exit → Act → World → Prop) (S : World → Prop) (g fuel : Nat) (listed : Array Bool) (a : Act) (w : World) (rs : List Nat) : Prop :=
  ∀ i ∈ rs, wpOp P ops Q i (fun a' w' => S w' ∧ wpAnyG P md ops Q S g fuel (listed.setIfInBounds i true) a' w') a w
theorem AllReadyG.nil {g fuel : Nat} {listed : Array Bool} {a : Act} {w : World} : AllReadyG P md ops Q S g fuel listed a w [] := fun _ h => by cases h
theorem AllReadyG.cons {g fuel : Nat} {listed : Array Bool} {a : Act} {w : World} {i : Nat} {o : Oper} {rs : List Nat} (ho : ops[i]? = some o)
    (h : ∀ K' : Act → World → Prop, Shut (∀ a w, S w → (S w → wpAnyG P md ops Q S g fuel (listed.setIfInBounds i true) a w) → K' a w) → if Region.wanted o (yielded ops a.tmps) = true then Oper.wp P o a w K' Q else K' (a.put o.dst undef) w)
    (hs : AllReadyG P md ops Q S g fuel listed a w rs) : AllReadyG P md ops Q S g fuel listed a w (i :: rs) := fun j hj => by
  rcases List.mem_cons.1 hj with rfl | hj
  · exact wpOp_step ho (fun K' hK => h K' (fun a w hS hW => hK a w ⟨hS, hW hS⟩))
  · exact hs j hj
theorem wpAnyG_ready {g : Nat} {rs : List Nat} {fuel : Nat} {listed : Array Bool} {a : Act} {w : World} (hr : Region.ready md ops listed = rs) (hne : rs ≠ [])
    (h : AllReadyG P md ops Q S g fuel listed a w rs) : wpAnyG P md ops Q S g (fuel + 1) listed a w :=
  ⟨fun h0 => absurd (hr ▸ h0) hne, fun i hi => wpOp_mono (fun _ _ h' => ⟨fun _ => h'.1, h'.2⟩) (h i (hr ▸ hi))⟩

/-- Behind the gate nothing is held any more. -/
theorem wpAnyG_of_free {g : Nat} : ∀ {fuel : Nat} {listed : Array Bool} {a : Act} {w : World}, listed.getD g true = true → wpAnyH P md ops Q (fun _ => True) fuel listed a w → wpAnyG P md ops Q S g fuel listed a w
  | 0, _, _, _, _, h => h
  | fuel + 1, listed, _, _, hl, h => ⟨h.1, fun i hi => wpOp_mono (fun a' w' h' => by
      have hl' : (listed.setIfInBounds i true).getD g true = true := by
        by_cases hig : i = g
        · subst hig
          rcases Nat.lt_or_ge i listed.size with h' | h' <;> simp [h']
        · rw [getD_set_ne true hig]; exact hl
      exact ⟨fun h0 => (by rw [hl'] at h0; cases h0), wpAnyG_of_free hl' h'.2⟩) (h.2 i hi)⟩
/-- The gate itself, alone ready, and yielding in whatever world. -/
theorem wpAnyG_gate {g : Nat} {og : Oper} {v : Value} {fuel : Nat} {listed : Array Bool} {a : Act} {w : World} (hi : ops[g]? = some og) (hr : Region.ready md ops listed = [g]) (hy : YieldsIf P ops (fun _ => True) og v a)
    (h : wpAnyH P md ops Q (fun _ => True) fuel (listed.setIfInBounds g true) (a.put og.dst v) w) : wpAnyG P md ops Q S g (fuel + 1) listed a w := by
  have hl : (listed.setIfInBounds g true).getD g true = true := by rcases Nat.lt_or_ge g listed.size with h' | h' <;> simp [h']
  refine ⟨fun h0 => (by rw [hr] at h0; cases h0), fun i hi' => ?_⟩
  rw [hr] at hi'
  simp only [List.mem_cons, List.not_mem_nil, or_false] at hi'
  subst hi'
  exact hy.wpOp hi trivial ⟨fun h0 => (by rw [hl] at h0; cases h0), wpAnyG_of_free hl h⟩
/-- The gate itself, alone ready: a store, or whatever. -/
theorem wpAnyG_gateOp {g : Nat} {og : Oper} {fuel : Nat} {listed : Array Bool} {a : Act} {w : World} (ho : ops[g]? = some og) (hr : Region.ready md ops listed = [g])
    (h : ∀ K' : Act → World → Prop, Shut (∀ a w, True → (True → wpAnyH P md ops Q (fun _ => True) fuel (listed.setIfInBounds g true) a w) → K' a w) → if Region.wanted og (yielded ops a.tmps) = true then Oper.wp P og a w K' Q else K' (a.put og.dst undef) w) :
    wpAnyG P md ops Q S g (fuel + 1) listed a w := by
  have hl : (listed.setIfInBounds g true).getD g true = true := by rcases Nat.lt_or_ge g listed.size with h' | h' <;> simp [h']
  refine ⟨fun h0 => (by rw [hr] at h0; cases h0), fun i hi' => ?_⟩
  rw [hr] at hi'
  simp only [List.mem_cons, List.not_mem_nil, or_false] at hi'
  subst hi'
  exact wpOp_step ho (fun K' hK => h K' (fun a w _ hW => hK a w ⟨fun h0 => (by rw [hl] at h0; cases h0), wpAnyG_of_free hl (hW trivial)⟩))
theorem wp_region_gate_drew {id g : Nat} {a : Act} {w : World} (hm : P.follows .mixedOrders = true) (hS : S w.drew)
    (h : S w.drew → wpAnyG P .any ops Q S g ops.size (Array.replicate ops.size false) a w.drew) : (Code.region id ops true).wp P Q a w :=
  wp_region_any hm (wpAny_of_gate _ _ _ _ (h hS))
theorem wpAnyG_mono {g : Nat} {S' : World → Prop} (h : ∀ x, S' x → S x) : ∀ {fuel : Nat} {listed : Array Bool} {a : Act} {w : World}, wpAnyG P md ops Q S' g fuel listed a w → wpAnyG P md ops Q S g fuel listed a w
  | 0, _, _, _, hh => hh
  | _ + 1, _, _, _, hh => ⟨hh.1, fun i hi => wpOp_mono (fun _ _ q => ⟨fun h0 => h _ (q.1 h0), wpAnyG_mono h q.2⟩) (hh.2 i hi)⟩
end

/-- A region by a name for its operations. -/
theorem swap_ops {P : Program} {id : Nat} {ops ops' : Array Oper} {b : Bool} {Q : Exit → Act → World → Prop} {a : Act} {w : World} (h : ops = ops') (hw : (Code.region id ops' b).wp P Q a w) : (Code.region id ops b).wp P Q a w := by
  rw [h]
  exact hw

section
variable {P : Program} {ops : Array Oper} {Q : Exit → Act → World → Prop} {S : World → Prop}
/-- A region in the order of its text, by the operations' numbers. -/
theorem wp_region_seq {id : Nat} {l : List Nat} {a : Act} {w : World} (hl : List.range ops.size = l) (h : wpOps P ops Q l a w) : (Code.region id ops false).wp P Q a w := wp_region (by rw [hl]; exact h)
theorem wpOps_val {i : Nat} {oi : Oper} {v : Value} {rest : List Nat} {a : Act} {w : World} (hi : ops[i]? = some oi) (hy : YieldsIf P ops S oi v a) (hS : S w) (h : wpOps P ops Q rest (a.put oi.dst v) w) : wpOps P ops Q (i :: rest) a w := by
  rw [wpOps_cons]
  exact hy.wpOp hi hS h
theorem wpOps_end {a : Act} {w : World} (h : Q .normal a w) : wpOps P ops Q [] a w := h
end

/-- An append onto a row of the call's own, inside a drawing region. -/
theorem step_appG {P : Program} {ops : Array Oper} {o : Oper} {a : Act} {w : World} {K : Act → World → Prop} {Q : Exit → Act → World → Prop} {E : Prop}
    (hwt : Region.wanted o (yielded ops a.tmps) = true) (s x : Operand) (t tx : TypeId) (hop : o.op = .call { callee := .builtin .append, args := #[s, x], argTypes := #[t, tx] })
    (base : Nat) (e : TypeId) (i : TypeInfo) (z : Value) (size bytes : Nat) (ht : P.underlying t = some (.slice e)) (hi : P.info? e = some i) (hz : i.zero = some z)
    (hsize : i.size = size) (hby : i.bytes = bytes) (hzs : z.cells.size = size)
    (v : Value) (n : Nat) (xs : List Value) (hs : a.eval s = v) (hown : w.ownsRow base e size v n xs)
    (xv : Value) (m : Nat) (news : List Value) (hx : a.eval x = xv) (hsrc : Src P size tx xv m news w)
    (h63 : n + m ≤ maxLen) (hbytes : ∀ old, old < n + m → Builtin.nextslicecap (n + m) old * bytes ≤ 281474976710656) (hbase : base ≤ w.heap.size)
    (h : ∀ v' w', w'.ownsRow base e size v' (n + m) (xs ++ news) → w.grownBy w' v.ownBlock → K (a.put o.dst v') w') :
    if Region.wanted o (yielded ops a.tmps) = true then Oper.wp P o a w K Q else E := by
  rw [if_pos hwt]
  obtain ⟨v', w', hr, h2, h3⟩ := run_append_own_src (P := P) w base t tx o.type e i z size bytes ht hi hz hsize hby hzs v n xs hown xv m news hsrc h63 hbytes hbase
  unfold Oper.wp
  simp [execOp, hop, resolve, invoke, builtin, hs, hx, hr, Result.andThen]
  exact h v' w' h2 h3
end Go.Proofs.Ytlkodgmnhphfcaa
