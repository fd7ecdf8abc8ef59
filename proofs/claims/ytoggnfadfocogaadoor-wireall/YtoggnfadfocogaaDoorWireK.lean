/- tableaulaw00's Place, Msg and SameMsg; tableaulaw04.few. -/
import Derived.Test.YtoggnfadfocogaaDoorWireJ
import Derived.Deep.RegionLaw
namespace Go.Proofs.YtoggnfadfocogaaDoor
open Go Go.RowKit

/-- A number as a place. -/
def plc (v : Int) (n : Nat) : Nat := (v % n).toNat

theorem plc_lt (v : Int) (n : Nat) (h : 0 < n) : plc v n < n := by
  have h1 := Int.emod_nonneg v (b := (n : Int)) (by omega)
  have h2 := Int.emod_lt_of_pos v (b := (n : Int)) (by omega)
  unfold plc
  omega

theorem place_any (v : Int) (n : Nat) (_hv : -9223372036854775808 ≤ v ∧ v ≤ 9223372036854775807) (hn : 0 < n) (hn2 : n ≤ 1000000) (w : World) :
    Calls Tryd.prog 23 #[.int .i64 v, .int .i64 n] w fun e w' => e = .returned (.int .i64 (plc v n : Nat)) ∧ w' = w := by
  have h0 : ¬ ((n : Int) = 0) := by omega
  go_enter Tryd.func23, Tryd.ntmps23
  have hb := Int.emod_nonneg v (b := (n : Int)) (by omega)
  have hb2 := Int.emod_lt_of_pos v (b := (n : Int)) (by omega)
  have HP : Hid (((plc v n : Nat) : Int) = v % n) := by simp only [Hid]; unfold plc; omega
  have HT : Hid (v.tmod n = if 0 ≤ v ∨ (n : Int) ∣ v then v % n else v % n - n) := by
    simp only [Hid]
    rw [Int.tmod_eq_emod]
    split <;> simp
  have ht : -9223372036854775808 ≤ v.tmod n + n ∧ v.tmod n + n ≤ 9223372036854775807 := by rw [HT.out]; split <;> omega
  clear hb hb2
  go_wp2
  all_goals
    go_ret
    refine ⟨ret_int ?_, rfl⟩
    have hb := Int.emod_nonneg v (b := (n : Int)) (by omega)
    have hb2 := Int.emod_lt_of_pos v (b := (n : Int)) (by omega)
    have h1 := HT.out
    rw [HP.out]
    split at h1 <;> omega

theorem step_append_own_src {P : Program} {ops : Array Oper} {o : Oper} {a : Act} {w : World} {K : Act → World → Prop} {Q : Exit → Act → World → Prop} {E : Prop}
    (hg : o.guard = none) (s x : Operand) (t tx : TypeId) (hop : o.op = .call { callee := .builtin .append, args := #[s, x], argTypes := #[t, tx] })
    (base : Nat) (e : TypeId) (i : TypeInfo) (z : Value) (size bytes : Nat) (ht : P.underlying t = some (.slice e)) (hi : P.info? e = some i) (hz : i.zero = some z)
    (hsize : i.size = size) (hby : i.bytes = bytes) (hzs : z.cells.size = size)
    (v : Value) (n : Nat) (xs : List Value) (hs : a.eval s = v) (hown : w.ownsRow base e size v n xs)
    (xv : Value) (m : Nat) (news : List Value) (hx : a.eval x = xv) (hsrc : Src P size tx xv m news w)
    (h63 : n + m ≤ maxLen) (hbytes : ∀ old, old < n + m → Builtin.nextslicecap (n + m) old * bytes ≤ 281474976710656) (hbase : base ≤ w.heap.size)
    (h : ∀ v' w', w'.ownsRow base e size v' (n + m) (xs ++ news) → w.grownBy w' v.ownBlock → K (a.put o.dst v') w') :
    if Region.wanted o (yielded ops a.tmps) = true then Oper.wp P o a w K Q else E := by
  have hw : Region.wanted o (yielded ops a.tmps) = true := by simp [Region.wanted, hg]
  rw [if_pos hw]
  obtain ⟨v', w', hr, h2, h3⟩ := run_append_own_src (P := P) w base t tx o.type e i z size bytes ht hi hz hsize hby hzs v n xs hown xv m news hsrc h63 hbytes hbase
  unfold Oper.wp
  simp [execOp, hop, resolve, invoke, builtin, hs, hx, hr, Result.andThen]
  exact h v' w' h2 h3

set_option maxRecDepth 100000 in
set_option maxHeartbeats 1000000 in
theorem msg_any (o q : Int) (a : Option Addr) (n c : Nat) (l : List AV) (w : World) (hr : RdA w a n c l) (hn : n ≤ 1000000) :
    Calls Tryd.prog 12 #[.agg #[.int .i64 o, .int .i64 q, .slice a n c]] w fun e w' => ∃ a2 c2, e = .returned (.agg #[.int .i64 o, .int .i64 q, .slice a2 n c2]) ∧ RdA w' a2 n c2 l ∧ Below w.heap.size w w' := by
  obtain ⟨iA, hiA, hzA0, hzA1, hzA2⟩ := info_parts infoArg
  have hbb : Below w.heap.size w ((w.alloc (.cells #[.int .i64 o, .int .i64 q, .slice a n c] 24)).alloc (.cells #[.int .i64 0, .int .i64 0, .slice none 0 0] 24)) := ((Below.refl _ _).alloc (Nat.le_refl _) _).alloc (by simp) _
  have HS : Hid (Src Tryd.prog 3 22 (.slice a n c) n (acs l) ((w.alloc (.cells #[.int .i64 o, .int .i64 q, .slice a n c] 24)).alloc (.cells #[.int .i64 0, .int .i64 0, .slice none 0 0] 24)).drew) := (hr.below hbb.drew hr.low).src Tryd.underlying22
  have hv4 : ((w.alloc (.cells #[.int .i64 o, .int .i64 q, .slice a n c] 24)).alloc (.cells #[.int .i64 0, .int .i64 0, .slice none 0 0] 24)).heap[w.heap.size + 1]? = some (.cells #[.int .i64 0, .int .i64 0, .slice none 0 0] 24 (0, 0)) := by
    have h := heap_alloc_new (w.alloc (.cells #[.int .i64 o, .int .i64 q, .slice a n c] 24)) (.cells #[.int .i64 0, .int .i64 0, .slice none 0 0] 24)
    simpa only [World.size_alloc] using h
  have hv5 : ((w.alloc (.cells #[.int .i64 o, .int .i64 q, .slice a n c] 24)).alloc (.cells #[.int .i64 0, .int .i64 0, .slice none 0 0] 24)).heap[w.heap.size]? = some (.cells #[.int .i64 o, .int .i64 q, .slice a n c] 24 (0, 0)) := by
    rw [Below.heap_alloc _ _ _ (by simp)]
    exact heap_alloc_new w _
  have HF : Hid (∀ v5 w5, w5.ownsRow (w.heap.size + 1 + 1) 60 3 v5 (0 + n) ([] ++ acs l) → ((w.alloc (.cells #[.int .i64 o, .int .i64 q, .slice a n c] 24)).alloc (.cells #[.int .i64 0, .int .i64 0, .slice none 0 0] 24)).drew.grownBy w5 (Value.slice none 0 0).ownBlock → ∃ a2 c2, v5 = .slice a2 n c2 ∧ w5.cell? ⟨w.heap.size + 1, 0, none⟩ = some (.int .i64 0) ∧ w5.cell? ⟨w.heap.size + 1, 1, none⟩ = some (.int .i64 0) ∧ w5.cell? ⟨w.heap.size + 1, 2, none⟩ = some (.slice none 0 0) ∧ (∀ k, w5.frozen? ⟨w.heap.size + 1, k, none⟩ = false) ∧ (w5.cell? ⟨w.heap.size, 0, none⟩ = some (.int .i64 o) ∧ w5.cell? ⟨w.heap.size, 1, none⟩ = some (.int .i64 q) ∧ w5.cell? ⟨w.heap.size, 2, none⟩ = some (.slice a n c)) ∧ Below w.heap.size w w5 ∧ RdA w5 a2 n c2 l ∧ ∀ x, a2 = some x → x.block ≠ w.heap.size + 1) := fun v5 w5 o5 g5 => by
    rw [Nat.zero_add, List.nil_append] at o5
    obtain ⟨a2, c2, rfl, h2, h3⟩ := rda_of_owns o5 hr.wf
    have hb5 : Below w.heap.size w w5 := hbb.drew.grown g5 (by simp; omega) (fun k hk => by cases hk)
    obtain ⟨_, _, _, _, g6⟩ := g5
    have hz : w5.heap[w.heap.size + 1]? = some (.cells #[.int .i64 0, .int .i64 0, .slice none 0 0] 24 (0, 0)) := by
      rw [g6 _ (by simp) (fun hb => by cases hb)]
      exact hv4
    have hx : w5.heap[w.heap.size]? = some (.cells #[.int .i64 o, .int .i64 q, .slice a n c] 24 (0, 0)) := by
      rw [g6 _ (by simp; omega) (fun hb => by cases hb)]
      exact hv5
    exact ⟨a2, c2, rfl, by rw [World.cell?, hz]; rfl, by rw [World.cell?, hz]; rfl, by rw [World.cell?, hz]; rfl, Lib.frozen_of_heap hz, ⟨by rw [World.cell?, hx]; rfl, by rw [World.cell?, hx]; rfl, by rw [World.cell?, hx]; rfl⟩, hb5, h2, fun x hx => by have := (h3 x hx).1; omega⟩
  clear hr hbb hv4 hv5
  go_enter Tryd.func12, Tryd.ntmps12
  go_wp2
  go_region_law (refine step_append_own_src rfl (.const (.slice none 0 0)) (.tmp 8) 22 22 rfl (w.heap.size + 1 + 1) 60 iA (.agg #[.int .u8 0, .int .i64 0, .string ⟨#[]⟩]) 3 32 Tryd.underlying22 hiA hzA0 hzA1 hzA2 rfl (.slice none 0 0) 0 [] rfl (World.ownsRow_nil _ _ _ _) (.slice a n c) n (acs l) (by simp [Act.eval]) HS.out (by simp only [maxLen]; omega) (fits32 (by omega)) (by simp) ?_; intro v5 w5 o5 g5; obtain ⟨a2, c2, rfl, z0, z1, z2, zf, ⟨x0, x1, x2⟩, hb5, hr5, hne5⟩ := HF.out _ _ o5 g5; clear o5 g5)
  all_goals
    go_wp2
    refine bodyPost_ret (v := .agg #[.int .i64 o, .int .i64 q, .slice a2 n c2]) ?_ rfl ⟨a2, c2, rfl, ?_, ?_⟩
    · simp [results, Tryd.results12, go_sem, z0, z1, z2]
    · exact ((hr5.set _ 0 _ hne5).set _ 1 _ hne5).set _ 2 _ hne5
    · exact ((hb5.setCell (p := ⟨w.heap.size + 1, 0, none⟩) (Nat.le_succ _) _).setCell (p := ⟨w.heap.size + 1, 1, none⟩) (Nat.le_succ _) _).setCell (p := ⟨w.heap.size + 1, 2, none⟩) (Nat.le_succ _) _
end Go.Proofs.YtoggnfadfocogaaDoor
