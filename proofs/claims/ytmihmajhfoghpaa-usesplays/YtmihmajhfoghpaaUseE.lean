/- Appends of numbers onto rows of a call's own; Ints: a copy. -/
import Derived.Test.YtmihmajhfoghpaaUseD
import Derived.Test.YtmihmajhfoghpaaLibD
namespace Go.Proofs.Ytmihmajhfoghpaa
open Go Go.RowKit

theorem info_parts {P : Program} {e : TypeId} {z : Value} {n m : Nat} (h : (P.info? e).map (fun i => (i.zero, i.size, i.bytes)) = some (some z, n, m)) : ∃ i, P.info? e = some i ∧ i.zero = some z ∧ i.size = n ∧ i.bytes = m := by
  obtain ⟨i, hi, hz⟩ := Option.map_eq_some_iff.1 h
  simp only [Prod.mk.injEq] at hz
  exact ⟨i, hi, hz.1, hz.2.1, hz.2.2⟩
theorem infoInt : (Try.prog.info? 3).map (fun i => (i.zero, i.size, i.bytes)) = some (some (.int .i64 0), 1, 8) := by kernel_rfl
theorem fits8 {need : Nat} (h : need ≤ 2000000000) : ∀ old, old < need → Builtin.nextslicecap need old * 8 ≤ 281474976710656 := fun old ho => by
  have := nextslicecap_near ho
  omega

variable {P : Program} {w : World}
theorem RdI.src {a : Option Addr} {n c : Nat} {zs : List Int} (h : RdI .i64 w a n c zs) {t e : TypeId} (ht : P.underlying t = some (.slice e)) : Src P 1 t (.slice a n c) n (zs.map encZ) w := by
  have hl := h.len
  cases a with
  | none =>
    have h1 := h.hnil rfl
    have h2 := h.le
    obtain rfl : n = 0 := by omega
    obtain rfl : zs = [] := List.eq_nil_of_length_eq_zero hl
    exact Src.ofNil w ht c
  | some x =>
    refine Src.ofSlice w ht x n c (zs.map encZ) (by rw [List.length_map, hl, Nat.mul_one]) (fun j u hu => ?_) (fun u hu => ?_)
    · rw [List.getElem?_map] at hu
      obtain ⟨z, hz, rfl⟩ := Option.map_eq_some_iff.1 hu
      have hj := (List.getElem?_eq_some_iff.1 hz).1
      rw [h.cells x rfl j (by omega), List.getD, hz]
      rfl
    · obtain ⟨_, _, rfl⟩ := List.mem_map.1 hu
      rfl

/-- What an append onto a row of one's own leaves. -/
theorem own_more {x y : World} {B n : Nat} {v v' : Value} {zs ys : List Int} (hv : x.ownsRow B 3 1 v n (zs.map encZ)) (hB : B ≤ x.heap.size) (hy : y.ownsRow B 3 1 v' (n + ys.length) (zs.map encZ ++ ys.map encZ)) (g : x.grownBy y v.ownBlock) : y.ownsRow B 3 1 v' (zs ++ ys).length ((zs ++ ys).map encZ) ∧ Below B x y := by
  have hl : zs.length = n := by have := hv.1; rw [List.length_map] at this; omega
  refine ⟨?_, (kp_of_grown g).below hB (fun k hk => (hv.lt k (by simpa using hk)).1)⟩
  rw [List.length_append, hl, List.map_append]
  exact hy

set_option maxRecDepth 100000 in
theorem ints_any (s : Option Addr) (n c : Nat) (zs : List Int) (hr : RdI .i64 w s n c zs) (hn : n ≤ 1000000) :
    Calls Try.prog 10 #[.slice s n c] w fun e w' => ∃ v, e = .returned v ∧ w'.ownsRow w.heap.size 3 1 v zs.length (zs.map encZ) ∧ Below w.heap.size w w' := by
  obtain ⟨i0, hi, hz0, hz1, hz2⟩ := info_parts infoInt
  have HS := hid (hr.src (P := Try.prog) (t := 26) (e := 3) Try.underlying26)
  have HO := hid (World.ownsRow_nil w w.heap.size 3 1)
  have HL := hid hr.len
  clear hr
  go_enter Try.func10, Try.ntmps10
  go_wp2_with (at_builtin; refine wpList_append_own_src _ rfl (.const (.slice none 0 0)) (.tmp 3) 26 26 rfl w.heap.size 3 i0 (.int .i64 0) 1 8 Try.underlying26 hi hz0 hz1 hz2 rfl _ _ _ rfl HO.out _ _ _ rfl HS.out (by simp only [maxLen]; omega) (fits8 (by omega)) (Nat.le_refl _) ?_; intro v3 w3 o3 g3; have HO3 := hid o3; have HG3 := hid g3; clear o3 g3)
  go_ret
  rw [HL.out]
  refine ⟨_, rfl, ?_, (kp_of_grown HG3.out).below (Nat.le_refl _) (fun k hk => by cases hk)⟩
  have := HO3.out
  rw [Nat.zero_add, List.nil_append] at this
  exact this
end Go.Proofs.Ytmihmajhfoghpaa
