/- The contracts of the program's uses, I: New, Held, Times. -/
import Derived.Test.YtmihmajhfoghpaaUseA
import Derived.Test.YtmihmajhfoghpaaShlU
import Derived.Test.YtmihmajhfoghpaaLibA
import Derived.Test.YtmihmajhfoghpaaLibS
import Derived.Lib.Builder
namespace Go.Proofs.Ytmihmajhfoghpaa
open Go Go.RowKit Go.Maps Go.Sort Go.Shelf

abbrev I64 (x : Int) : Prop := -9223372036854775808 ≤ x ∧ x ≤ 9223372036854775807

def uR : Value → Option (DataW Unit × List MemPlace)
  | .agg _ => some (.agg [], [])
  | _ => none
def ud (_ : Unit) : DataW Unit := .agg []
def iR : Value → Option (DataW Unit × List MemPlace)
  | .int .i64 n => some (.lit (.int .i64 n), [])
  | _ => none
def idt (n : Int) : DataW Unit := .lit (.int .i64 n)
theorem iR_mk (n : Int) : iR (.int .i64 n) = some (idt n, []) := rfl
theorem iR_inv {x : Value} {n : Int} {ps : List MemPlace} (h : iR x = some (idt n, ps)) : x = .int .i64 n := by
  unfold iR at h
  split at h
  · simp only [Option.some.injEq, Prod.mk.injEq, idt, DataW.lit.injEq, Lit.int.injEq, true_and] at h
    rw [h.1]
  · cases h

/-- The uses at p, its maps at a and b: held are L, told were those of told. -/
structure Ust (w : World) (p a b : Nat) (L told : List Int) : Prop where
  npa : p ≠ a
  npb : p ≠ b
  nab : a ≠ b
  var : w.heap[p]? = some (.cells #[.map (some a), .map (some b)] 42 (0, 0))
  hown : ∃ D, w.ownsMap Try.prog 3 uR a L.length D ∧ Rp ud () D (un L)
  town : ∃ D T, w.ownsMap Try.prog 3 iR b T.length D ∧ Rp idt 0 D T ∧ Cnt T told
  ris : Ris L
  pos : ∀ x ∈ L, 0 < x ∧ x ≤ 9223372036854775807

theorem own_kp {R : Value → Option (DataW Unit × List MemPlace)} {X : List Nat} {w w' : World} {b n : Nat} {D : DataW Unit} (h : w.ownsMap Try.prog 3 R b n D) (hk : Kp X w w') (hX : b ∉ X) : w'.ownsMap Try.prog 3 R b n D := by
  obtain ⟨es, clock, hb, F, hs, hD⟩ := h
  exact ⟨es, clock, hk.var hb hX, F, hs, hD⟩

variable {w w' : World} {p a b : Nat} {L told : List Int}

theorem Ust.kept {X : List Nat} (h : Ust w p a b L told) (hk : Kp X w w') (hp : p ∉ X) (ha : a ∉ X) (hb : b ∉ X) : Ust w' p a b L told := by
  obtain ⟨D, h1, h2⟩ := h.hown
  obtain ⟨D', T, h3, h4, h5⟩ := h.town
  exact ⟨h.npa, h.npb, h.nab, hk.var h.var hp, ⟨D, own_kp h1 hk ha, h2⟩, ⟨D', T, own_kp h3 hk hb, h4, h5⟩, h.ris, h.pos⟩
theorem Ust.on (h : Ust w p a b L told) (hb : Below w.heap.size w w') : Ust w' p a b L told := h.kept (kp_of_below hb []) (by simp) (by simp) (by simp)
theorem Ust.lt (h : Ust w p a b L told) : p < w.heap.size ∧ a < w.heap.size ∧ b < w.heap.size := by
  obtain ⟨D, h1, _⟩ := h.hown
  obtain ⟨D', T, h2, _⟩ := h.town
  exact ⟨(Array.getElem?_eq_some_iff.1 h.var).1, h1.lt, h2.lt⟩
theorem Ust.c0 (h : Ust w p a b L told) : w.cell? ⟨p, 0, none⟩ = some (.map (some a)) := by rw [Lib.cell_of_heap h.var]; rfl
theorem Ust.c1 (h : Ust w p a b L told) : w.cell? ⟨p, 1, none⟩ = some (.map (some b)) := by rw [Lib.cell_of_heap h.var]; rfl

theorem kInt (id : Int) (h : I64 id) : keyOf Try.prog 3 (.int .i64 id) = some (.int .i64 id) :=
  Maps.keyOf_int_mk Try.underlying3 (by simp [Lit.wf, IntKind.min, IntKind.max, IntKind.signed, IntKind.bits]; omega)
theorem zInt (w : World) : (zeroValue 3).run Try.prog w = .ok (.int .i64 0) w := by kernel_rfl

section
variable {H : Type} {P : Program} {ops : Array Oper} {rest : List Oper} {o : Oper} {a : Act} (w : World) {Q : Exit → Act → World → Prop}
theorem wpList_lookup_own (hg : o.guard = none) (m x : Operand) (t : TypeId) (hop : o.op = Op.lookup t m x false)
    (k e : TypeId) (K : Maps.Keyed P k) (ht : P.underlying t = some (.map k e)) (R : Value → Option (DataW H × List MemPlace)) {z : Value} (hz : (zeroValue e).run P w = .ok z w) (zd : DataW H) (zp : List MemPlace) (hzd : R z = some (zd, zp)) (b n : Nat) (D : DataW H)
    (hm : a.eval m = .map (some b)) (hown : w.ownsMap P k R b n D) (key : Value) (kl : Lit) (hx : a.eval x = key) (hkey : keyOf P k key = some kl)
    (hK : ∀ v ps, R v = some (D.atKey kl zd, ps) → wpList P ops Q rest (a.put o.dst v) w) :
    wpList P ops Q (o :: rest) a w := by
  refine wpList_plain hg fun K' hK' => ?_
  obtain ⟨v, ps, hrun, hv⟩ := hown.lookup K ht hz hzd hkey
  unfold Oper.wp
  simp [execOp, hop, hm, hx, hrun, Result.andThen]
  exact hK' _ _ (hK v ps hv)
end

set_option maxRecDepth 100000 in
theorem unew_any (w : World) : Calls Try.prog 6 #[] w fun e w' => e = .returned (.pointer (some ⟨w.heap.size + 2, 0, none⟩)) ∧ Below w.heap.size w w' ∧ Ust w' (w.heap.size + 2) w.heap.size (w.heap.size + 1) [] [] := by
  have H0 := hid (World.ownsMap_made w Try.prog 3 uR)
  have H1 := hid (World.ownsMap_made (w.alloc (.map #[] 0)) Try.prog 3 iR)
  have hmm := @run_makeMap Try.prog
  go_enter Try.func6, Try.ntmps6
  go_wp2
  go_ret
  have hb : Below w.heap.size w (w.alloc (.map #[] 0)) := (Below.refl w.heap.size w).alloc (Nat.le_refl _) _
  have hb2 : Below w.heap.size w ((w.alloc (.map #[] 0)).alloc (.map #[] 0)) := hb.alloc hb.size _
  have hs1 : (w.alloc (.map #[] 0)).heap.size = w.heap.size + 1 := by simp
  have h1 := H1.out
  rw [hs1] at h1
  refine ⟨by simp, hb2.alloc hb2.size _, ⟨by omega, by omega, by omega, ?_, ⟨_, (H0.out.alloc _).alloc _, rp_empty _ _⟩, ⟨_, [], h1.alloc _, rp_empty _ _, cnt0⟩, List.Pairwise.nil, fun _ h => by cases h⟩⟩
  have := heap_alloc_new ((w.alloc (.map #[] 0)).alloc (.map #[] 0)) (.cells #[.map (some w.heap.size), .map (some (w.heap.size + 1))] 42 (0, 0))
  simpa using this

set_option maxRecDepth 100000 in
theorem utimes_any (hT : Ust w p a b L told) (id : Int) (hi : I64 id) :
    Calls Try.prog 13 #[.pointer (some ⟨p, 0, none⟩), .int .i64 id] w fun e w' => e = .returned (.int .i64 (told.count id : Nat)) ∧ w' = w := by
  obtain ⟨D, T, ho, hR, hc⟩ := hT.town
  have HO := hid ho
  have HA := hid (hR id)
  have HZ := hid (zInt w)
  have HK := hid (kInt id hi)
  have HC := hid (hc.cnt id)
  have c1 := hT.c1
  have l0 := hT.lt.1
  clear hT ho hR hc
  go_enter Try.func13, Try.ntmps13
  go_wp2_with (at_lookup; refine wpList_lookup_own _ rfl (.tmp 8) (.tmp 9) 40 rfl 3 3 (Maps.int_keyed Try.underlying3) Try.underlying40 iR HZ.out _ _ (iR_mk 0) b _ D rfl HO.out _ _ rfl HK.out ?_; intro v ps hv; rw [HA.out.2] at hv; obtain rfl := iR_inv hv; rw [HC.out]; clear hv)
  go_ret
  exact ⟨rfl, rfl⟩

/-- slices.Sort's two contracts, at the fence that asks nothing. -/
theorem sortsA (m : Nat) : AnyZI.SortsIn Try.prog sortedA_ren Fence.wide m :=
  ⟨fun blk off cap ss W hH hblk hsz => callsIn_wide.2 (AnyM.slices_Sort_int sortA blk off cap ss W hH hblk hsz),
   fun p cap W => callsIn_wide.2 (AnyM.slices_Sort_int_none sortA p cap W)⟩

set_option maxRecDepth 100000 in
set_option maxHeartbeats 1000000 in
/-- Held, over the map alone: the object need not be whole (in Now it is not). -/
theorem uheld_map (hv : w.cell? ⟨p, 0, none⟩ = some (.map (some a))) {D0 : DataW Unit} (hown : w.ownsMap Try.prog 3 uR a L.length D0) (hR : Rp ud () D0 (un L)) (hr : Ris L) (hn : L.length ≤ 1000000) :
    Calls Try.prog 12 #[.pointer (some ⟨p, 0, none⟩)] w fun e w' => ∃ v, e = .returned v ∧ w'.ownsRow w.heap.size 3 1 v L.length (L.map encZ) ∧ Below w.heap.size w w' := by
  have hnd : (keys (un L)).Nodup := by rw [keys_un]; exact ris_nodup hr
  have c0 := hv
  have l0 := World.block_lt_of_cell? _ _ hv
  have hsz : Maps.size D0 ≤ 1000000 := by rw [psize hown Try.underlying3 hR hnd, un_length]; exact hn
  have HK : Hid (∀ ss : List Int, ss.Perm (intKeys D0) → ss.mergeSort leI = L) := fun ss hp => by
    rw [psorted hown Try.underlying3 hR hnd hp, keys_un]
    exact sorted_merge (ris_le hr)
  refine (callsIn_wide (n := 6)).1 ?_
  have hbl := hown.lt
  have hseq : SeqGives Fence.wide 2 Try.prog 22 #[.pointer (some ⟨w.heap.size, 0, none⟩)] encZ (fun ss => ss.Perm (intKeys D0)) (Maps.size D0) (w.alloc (.cells #[.map (some a)] 39)) :=
    AnyZI.keys_gives (ρ := keysA_ren) { keysA with } Fence.wide _ trivial rfl (by omega) w.heap.size a _ D0 _ (by simp) (by simp) (by
      obtain ⟨es, clock, hb, Ft, hs, hD⟩ := hown
      exact ⟨es, clock, (Below.heap_alloc _ _ a hbl).trans hb, Ft, hs, hD⟩)
  have cK : ∀ mb W, CallsIn Fence.wide 5 Try.prog 19 #[.map mb] W fun e w' => e = .returned (.func (.func 22) #[] #[.pointer (some ⟨W.heap.size, 0, none⟩)]) ∧ w' = W.alloc (.cells #[.map mb] 39) := fun mb W => AnyZI.keys_in keysA Fence.wide 5 trivial rfl mb W
  have cS := AnyZI.sorted_in sortedA Fence.wide 5 trivial trivial trivial trivial rfl (by omega) (sortsA _) (enters_of Try.func21 (by kernel_rfl) rfl) 22 #[.pointer (some ⟨w.heap.size, 0, none⟩)] trivial (enters_of Try.func22 (by kernel_rfl) rfl) _ _ (Nat.le_trans hsz (by decide)) (by omega) _ hseq
  change CallsIn _ _ Try.prog 18 _ _ _ at cS
  have hfK : Fence.wide.fn 19 := trivial
  have hfS : Fence.wide.fn 18 := trivial
  clear hv hown hR hseq
  refine callsIn_of_wp Try.func12 rfl trivial ?_ rfl
  simp only [Try.ntmps12, List.size_toArray, List.length_cons, List.length_nil, Nat.reduceAdd, Nat.reduceSub, Array.replicate_succ, Array.replicate_zero, List.push_toArray, List.append_toArray, List.nil_append, List.cons_append]
  gi_wp2_with (first
    | (gi_at_call 19; refine (cK _ _).mono ?_; rintro e w' ⟨rfl, rfl⟩)
    | (gi_at_call 18; refine cS.mono ?_; rintro e w' ⟨v, ss, rfl, hS, hrow, hnil, hb⟩))
  go_ret
  have hk := HK.out ss hS
  have hlen : ss.length = L.length := by rw [← hk, List.length_mergeSort]
  rw [hlen, hk] at hrow
  exact ⟨v, rfl, ownsRow_base_a hrow (by simp), ((Below.refl _ w).alloc (Nat.le_refl _) _).trans (hb.mono (by simp))⟩

theorem uheld_any (hT : Ust w p a b L told) (hn : L.length ≤ 1000000) :
    Calls Try.prog 12 #[.pointer (some ⟨p, 0, none⟩)] w fun e w' => ∃ v, e = .returned v ∧ w'.ownsRow w.heap.size 3 1 v L.length (L.map encZ) ∧ Below w.heap.size w w' := by
  obtain ⟨D, h1, h2⟩ := hT.hown
  exact uheld_map hT.c0 h1 h2 hT.ris hn
end Go.Proofs.Ytmihmajhfoghpaa
