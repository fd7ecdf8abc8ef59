/- What sig's exported functions answer, for any interface, number and name; nothing that was there is turned. -/
import Derived.Test.YtadklnjkkmfhdaaDoorSigB
import Derived.BigQuiet
import Derived.Deep.QuietTactic
namespace Go.Proofs.YtadklnjkkmfhdaaDoor
open Go Go.RowKit

/-- nil where there is one, else the error at a. -/
def errv (a : Addr) : Bool → Value
  | true => .nilIface
  | false => .iface 72 (.pointer (some a))

theorem rqS_none {f o : Int} (h : (rqAt f o).isSome = false) : rqS f o = [] := by
  rw [rqS]
  cases hq : rqAt f o with
  | none => rfl
  | some x => rw [hq] at h; cases h
theorem evS_none {f o : Int} (h : (evAt f o).isSome = false) : evS f o = [] := by
  rw [evS]
  cases hq : evAt f o with
  | none => rfl
  | some x => rw [hq] at h; cases h

theorem below_drewN {B : Nat} {u v : World} (h : Below B u v) (q : Nat) : Below B u (v.drewN q) := ⟨h.os, h.tape, h.output, h.size, h.block⟩

set_option maxRecDepth 100000 in
theorem Request_any (f o : Int) (w : World) (a : Addr) (hm : w.cell? ⟨0, 0, none⟩ = some (.iface 72 (.pointer (some a)))) :
    Calls Tryd.prog 8 #[.int .i64 f, .int .i64 o] w fun e w' => e = .returned (.tuple #[.string ⟨(rqS f o).toArray⟩, errv a (rqAt f o).isSome]) ∧ Below w.heap.size w w' := by
  have HM : Hid (w.cell? ⟨0, 0, none⟩ = some (.iface 72 (.pointer (some a)))) := hm
  have HC : Hid (∀ _ : Unit, Calls Tryd.prog 20 #[.int .i64 f, .int .i64 o] w fun e w' => e = .returned (.tuple #[.agg #[.string ⟨(rqS f o).toArray⟩, .int .i64 (rqM f o), .bool (rqB f o)], .bool (rqAt f o).isSome]) ∧ Below w.heap.size w w') := fun _ => requestAt_any f o w
  have HS : Hid ((rqAt f o).isSome = false → rqS f o = []) := rqS_none
  clear hm
  generalize rqS f o = qs at *
  generalize rqM f o = qm at *
  generalize rqB f o = qb at *
  generalize (rqAt f o).isSome = qi at *
  cases qi
  · obtain rfl : qs = [] := HS.out rfl
    clear HS
    go_enter Tryd.func8, Tryd.ntmps8
    go_wp2_with (go_at_call 20; refine (HC.out ()).mono ?_; rintro e w' ⟨rfl, hb⟩; have hm : w'.cell? ⟨0, 0, none⟩ = some (.iface 72 (.pointer (some a))) := (by rw [hb.cell (World.block_lt_of_cell? w _ HM.out)]; exact HM.out); have hl := World.block_lt_of_cell? w' _ hm; have HB : Hid (Below w.heap.size w w') := hb; clear hb)
    go_quiet (fail)
    go_wp2
    go_ret2
    exact ⟨rfl, below_drewN (HB.out.alloc HB.out.size _) _⟩
  · clear HS
    go_enter Tryd.func8, Tryd.ntmps8
    go_wp2_with (go_at_call 20; refine (HC.out ()).mono ?_; rintro e w' ⟨rfl, hb⟩; have HB : Hid (Below w.heap.size w w') := hb; clear hb)
    go_ret2
    exact ⟨rfl, HB.out.alloc HB.out.size _⟩

set_option maxRecDepth 100000 in
theorem Event_any (f o : Int) (w : World) (a : Addr) (hm : w.cell? ⟨0, 0, none⟩ = some (.iface 72 (.pointer (some a)))) :
    Calls Tryd.prog 10 #[.int .i64 f, .int .i64 o] w fun e w' => e = .returned (.tuple #[.string ⟨(evS f o).toArray⟩, errv a (evAt f o).isSome]) ∧ Below w.heap.size w w' := by
  have HM : Hid (w.cell? ⟨0, 0, none⟩ = some (.iface 72 (.pointer (some a)))) := hm
  have HC : Hid (∀ _ : Unit, Calls Tryd.prog 22 #[.int .i64 f, .int .i64 o] w fun e w' => e = .returned (.tuple #[.string ⟨(evS f o).toArray⟩, .bool (evAt f o).isSome]) ∧ Below w.heap.size w w') := fun _ => eventAt_any f o w
  have HS : Hid ((evAt f o).isSome = false → evS f o = []) := evS_none
  clear hm
  generalize evS f o = qs at *
  generalize (evAt f o).isSome = qi at *
  cases qi
  · obtain rfl : qs = [] := HS.out rfl
    clear HS
    go_enter Tryd.func10, Tryd.ntmps10
    go_wp2_with (go_at_call 22; refine (HC.out ()).mono ?_; rintro e w' ⟨rfl, hb⟩; have hm : w'.cell? ⟨0, 0, none⟩ = some (.iface 72 (.pointer (some a))) := (by rw [hb.cell (World.block_lt_of_cell? w _ HM.out)]; exact HM.out); have HB : Hid (Below w.heap.size w w') := hb; clear hb)
    go_quiet (fail)
    go_wp2
    go_ret2
    exact ⟨rfl, below_drewN HB.out _⟩
  · clear HS
    go_enter Tryd.func10, Tryd.ntmps10
    go_wp2_with (go_at_call 22; refine (HC.out ()).mono ?_; rintro e w' ⟨rfl, hb⟩; have HB : Hid (Below w.heap.size w w') := hb; clear hb)
    go_ret2
    exact ⟨rfl, HB.out⟩

theorem Makes_any (f o : Int) (w : World) :
    Calls Tryd.prog 13 #[.int .i64 f, .int .i64 o] w fun e w' => e = .returned (.int .i64 (rqM f o)) ∧ Below w.heap.size w w' := by
  go_enter Tryd.func13, Tryd.ntmps13
  go_wp2_with (go_at_call 20; refine (requestAt_any f o w).mono ?_; rintro e w' ⟨rfl, hb⟩; have HB : Hid (Below w.heap.size w w') := hb; clear hb)
  go_ret
  exact ⟨rfl, HB.out.alloc HB.out.size _⟩

theorem Ends_any (f o : Int) (w : World) :
    Calls Tryd.prog 14 #[.int .i64 f, .int .i64 o] w fun e w' => e = .returned (.bool (rqB f o)) ∧ Below w.heap.size w w' := by
  go_enter Tryd.func14, Tryd.ntmps14
  go_wp2_with (go_at_call 20; refine (requestAt_any f o w).mono ?_; rintro e w' ⟨rfl, hb⟩; have HB : Hid (Below w.heap.size w w') := hb; clear hb)
  go_ret
  exact ⟨rfl, HB.out.alloc HB.out.size _⟩

/-- The interfaces' names. -/
def nmT : List (List UInt8) := [[], [119, 108, 95, 100, 105, 115, 112, 108, 97, 121], [119, 108, 95, 114, 101, 103, 105, 115, 116, 114, 121], [119, 108, 95, 99, 97, 108, 108, 98, 97, 99, 107], [119, 108, 95, 99, 111, 109, 112, 111, 115, 105, 116, 111, 114], [119, 108, 95, 115, 104, 109], [119, 108, 95, 115, 104, 109, 95, 112, 111, 111, 108], [119, 108, 95, 98, 117, 102, 102, 101, 114], [119, 108, 95, 115, 117, 114, 102, 97, 99, 101], [119, 108, 95, 114, 101, 103, 105, 111, 110], [119, 108, 95, 115, 117, 98, 99, 111, 109, 112, 111, 115, 105, 116, 111, 114], [119, 108, 95, 115, 117, 98, 115, 117, 114, 102, 97, 99, 101], [119, 108, 95, 115, 101, 97, 116], [119, 108, 95, 112, 111, 105, 110, 116, 101, 114], [119, 108, 95, 107, 101, 121, 98, 111, 97, 114, 100], [120, 100, 103, 95, 119, 109, 95, 98, 97, 115, 101], [120, 100, 103, 95, 115, 117, 114, 102, 97, 99, 101], [120, 100, 103, 95, 116, 111, 112, 108, 101, 118, 101, 108]]

set_option maxRecDepth 100000 in
theorem names_any (w : World) :
    Calls Tryd.prog 25 #[] w fun e w' => e = .returned (.agg (strs nmT).toArray) ∧ Below w.heap.size w w' := by
  go_enter Tryd.func25, Tryd.ntmps25
  go_upto_region 1 with fail
  refine wp_region_lit ?_
  refine wpList_buildTo rfl 49 _ rfl _ rfl (strs nmT).toArray (by kernel_rfl) ?_
  refine wpList_frame (a' := ⟨#[.pointer (some ⟨w.heap.size, 0, none⟩), .agg (strs nmT).toArray], []⟩) (by kernel_rfl) ?_
  refine wpList_store_rowTo rfl 49 _ _ rfl rfl w.heap.size (strs nmT).toArray (by kernel_rfl) (by kernel_rfl) 49 _ (heap_alloc_last w _) (by kernel_rfl) (by kernel_rfl) (by kernel_rfl) ?_
  rw [World.setRow_alloc_new]
  go_wp2
  exact bodyPost_ret (v := .agg (strs nmT).toArray) (results_cell_row rfl _ _ w.heap.size 49 _ (0, 0) _ rfl (heap_alloc_last w _) Tryd.underlying49 rfl (by kernel_rfl)) rfl ⟨rfl, below1 _ _⟩

/-- An array's entry that is a text. -/
theorem idx_run (t e : TypeId) (n : Nat) (hu : Tryd.prog.underlying t = some (.array n e)) (he : e = 9) (cs : Array Value) (k : Nat) (s : ByteArray) (hk : k < n) (hx : cs[k]? = some (.string s)) (w : World) :
    Sem.run Tryd.prog (Instr.index t (.agg cs) (.int .i64 k)) w = .ok (.string s) w := by
  subst he
  have hz : ∀ u, Sem.run Tryd.prog (sizeOf 9) u = .ok 1 u := fun u => by kernel_rfl
  have ha : ∀ u, Sem.run Tryd.prog (isAgg 9) u = .ok false u := fun u => by kernel_rfl
  simp [Instr.index, asIntOf, run_underlying hu, hz, part, ha, hx, hk]

def nmS (f : Int) : List UInt8 := if 0 ≤ f ∧ f < 18 then nmT.getD f.toNat [] else []

set_option maxRecDepth 100000 in
theorem Name_any (f : Int) (w : World) :
    Calls Tryd.prog 15 #[.int .i64 f] w fun e w' => e = .returned (.string ⟨(nmS f).toArray⟩) ∧ Below w.heap.size w w' := by
  by_cases h1 : f < 0
  · have e : nmS f = [] := if_neg (by omega)
    rw [e]
    have h1' : decide (f < 0) = true := decide_eq_true h1
    go_enter Tryd.func15, Tryd.ntmps15
    go_wp2
    go_ret
    exact ⟨rfl, Below.refl _ _⟩
  by_cases h2 : 18 ≤ f
  · have e : nmS f = [] := if_neg (by omega)
    rw [e]
    have h1' : decide (f < 0) = false := decide_eq_false h1
    have h2' : decide (18 ≤ f) = true := decide_eq_true h2
    go_enter Tryd.func15, Tryd.ntmps15
    go_wp2
    go_ret
    exact ⟨rfl, Below.refl _ _⟩
  · obtain ⟨k, rfl⟩ : ∃ k : Nat, f = k := ⟨f.toNat, by omega⟩
    have e : nmS k = nmT.getD k [] := if_pos (by omega)
    rw [e]
    have h1' : decide ((k : Int) < 0) = false := decide_eq_false h1
    have h2' : decide (18 ≤ (k : Int)) = false := decide_eq_false h2
    have hk : k < 18 := by omega
    have HC : Hid (∀ u : World, Calls Tryd.prog 25 #[] u fun e w' => e = .returned (.agg (strs nmT).toArray) ∧ Below u.heap.size u w') := names_any
    have hx : (strs nmT).toArray[k]? = some (.string ⟨(nmT.getD k []).toArray⟩) := by
      rw [List.getElem?_toArray, strs, List.getElem?_map, List.getD, List.getElem?_eq_getElem (show k < nmT.length from hk)]
      rfl
    have hi := fun u => idx_run 49 9 18 Tryd.underlying49 rfl (strs nmT).toArray k _ hk hx u
    clear hx
    generalize (strs nmT).toArray = cs at *
    go_enter Tryd.func15, Tryd.ntmps15
    go_wp2_with (go_at_call 25; refine (HC.out _).mono ?_; rintro e w' ⟨rfl, hb⟩; have HB : Hid (Below w.heap.size w w') := hb; clear hb)
    go_ret
    exact ⟨rfl, HB.out⟩
end Go.Proofs.YtadklnjkkmfhdaaDoor
