/- The contracts of the program's word.PutList and word.PutText: the list's length, its bytes and its filling lie behind a copy of what was handed in, for every slice of bytes and every text of at most 100000 bytes; nothing that was there is turned. -/
import Derived.Test.YtoggnfadfocogaaDoorWordA
namespace Go.Proofs.YtoggnfadfocogaaDoor
open Go Go.RowKit

/-- A list's bytes as they are put: the length, the bytes, the filling. -/
def putl (s : List UInt8) : List UInt8 := le4 s.length ++ s ++ List.replicate ((s.length + 3) / 4 * 4 - s.length) 0

theorem putl_step (l s : List UInt8) (k : Nat) : bc (l ++ le4 s.length ++ s ++ List.replicate k 0) ++ [.int .u8 0] = bc (l ++ le4 s.length ++ s ++ List.replicate (k + 1) 0) := by
  rw [List.replicate_succ', ← List.append_assoc, bc_append (l ++ le4 s.length ++ s ++ List.replicate k 0)]
  rfl

theorem cell1 (w : World) (c0 : Value) (e : TypeId) : ∀ j u, [c0][j]? = some u → (w.alloc (.cells #[c0] e)).cell? ((⟨w.heap.size, 0, none⟩ : Addr).add j) = some u := by
  intro j u hu
  match j, hu with
  | 0, hu => simp at hu; subst hu; simp [Addr.add]
  | j + 1, hu => simp at hu

theorem zero_one : ∀ u ∈ [Value.int .u8 0], u.oneCell' = true := by
  intro u hu
  simp at hu
  subst hu
  rfl

theorem size_toList (s : ByteArray) : s.data.toList.length = s.size := by rw [Array.length_toList]; rfl

theorem row_lt {w : World} {base e size n : Nat} {v : Value} {xs : List Value} (h : w.ownsRow base e size v n xs) : ∀ k, v.ownBlock = some k → base ≤ k := fun k hk => (h.lt k hk).1

set_option maxRecDepth 100000 in
set_option maxHeartbeats 1000000 in
theorem putList_any (w : World) (a : Option Addr) (n c : Nat) (l : List UInt8) (hr : Rd w a n c l) (s : ByteArray) (hs : s.size ≤ 100000) (hn : n ≤ 140737488355320) :
    Calls Tryd.prog 38 #[.slice a n c, .string s] w fun e w' => ∃ r, e = .returned r ∧ w'.ownsRow w.heap.size 5 1 r (n + (putl s.data.toList).length) (bc (l ++ putl s.data.toList)) ∧ Below w.heap.size w w' := by
  obtain ⟨i0, hi, hz0, hz1, hz2⟩ := info_parts infoU8
  have hsz := size_toList s
  have HS : Hid (s.data.toList.length = s.size) := hsz
  have Hput : Hid (Calls Tryd.prog 27 #[.slice a n c, .int .u32 (s.size : Nat)] w fun e w' => ∃ r, e = .returned r ∧ w'.ownsRow w.heap.size 5 1 r (n + 4) (bc (l ++ le4 s.size)) ∧ Below w.heap.size w w') :=
    put_any w a n c l hr s.size (by omega) (by omega)
  clear hsz hr
  go_enter Tryd.func38, Tryd.ntmps38
  go_wp2_with fail
  refine Hput.out.mono ?_
  rintro e w1 ⟨r1, rfl, ho1, hb1⟩
  have hs1 := hb1.size
  go_wp2_with (at_builtin; refine wpList_append_own_src _ rfl (.tmp 9) (.tmp 10) 27 9 rfl w.heap.size 5 i0 (.int .u8 0) 1 1 Tryd.underlying27 hi hz0 hz1 hz2 rfl r1 (n + 4) _ rfl ho1 (.string s) s.size (byteCells s) rfl (Src.ofString _ Tryd.underlying9 s) (by simp only [maxLen]; omega) (fits1 (by omega)) hs1 ?_; intro v2 w2 ho2 hg2)
  have hb2 : Below w.heap.size w w2 := hb1.grown hg2 hs1 (row_lt ho1)
  have hs2 := hb2.size
  rw [byteCells_eq, ← bc_append, ← HS.out] at ho2
  clear hb1 hg2 ho1 hs1
  go_wp2_with (go_at_call 47; refine (filled_any s.size (by omega) _).mono ?_; rintro e w' ⟨rfl, rfl⟩)
  go_loopw [0, 18] (fun v i wr => ∃ k : Nat, (k : Int) ≤ ((s.size : Int) + 3) / 4 * 4 - s.size ∧ i = .int .i64 k ∧ wr.ownsRow w.heap.size 5 1 v (n + 4 + s.data.toList.length + k) (bc (l ++ le4 s.data.toList.length ++ s.data.toList ++ List.replicate k 0)) ∧ Below w.heap.size w wr)
    (fun _ i _ => (((s.size : Int) + 3) / 4 * 4 - s.size - intOf i).toNat)
  case atStart => exact ⟨0, by omega, rfl, by simpa using ho2, hb2⟩
  case round =>
    obtain ⟨k, hk, rfl, ho, hb⟩ := hrel
    have hsb := hb.size
    by_cases hlt : (k : Int) < ((s.size : Int) + 3) / 4 * 4 - s.size
    · have hx := HS.out
      have HX : Hid (n + 4 + s.data.toList.length + k + 1 ≤ 225000000000000) := by simp only [Hid]; omega
      have HY : Hid (n + 4 + s.data.toList.length + k + 1 ≤ maxLen) := by simp only [Hid, maxLen]; omega
      clear hx ho2 hb2 hs2
      go_wp2_with (at_builtin; refine wpList_append_own_src _ rfl (.tmp 20) (.tmp 21) 27 27 rfl w.heap.size 5 i0 (.int .u8 0) 1 1 Tryd.underlying27 hi hz0 hz1 hz2 rfl _ _ _ rfl (ho.alloc _) (.slice (some ⟨wr.heap.size, 0, none⟩) 1 1) 1 [.int .u8 0] rfl (Src.ofSlice _ Tryd.underlying27 ⟨wr.heap.size, 0, none⟩ 1 1 [.int .u8 0] rfl (cell1 _ _ _) zero_one) HY.out (fits1 HX.out) (by simp; omega) ?_; intro v2 w2 ho2 hg2)
      have hb2 : Below w.heap.size w w2 := (hb.alloc hsb _).grown hg2 (by simp; omega) (row_lt ho)
      rw [putl_step] at ho2
      clear hg2 ho hb hsb
      go_wp2
      go_roundw
      case rel => exact ⟨k + 1, by omega, by go_num, ho2, hb2⟩
      case measure => simp [intOf]; omega
    · have hx := HS.out
      have hke : k = (s.data.toList.length + 3) / 4 * 4 - s.data.toList.length := by omega
      have HK : Hid (k = (s.data.toList.length + 3) / 4 * 4 - s.data.toList.length) := hke
      clear hx hke
      go_wp2
      go_ret
      refine ⟨_, rfl, ?_, hb⟩
      have e1 : l ++ putl s.data.toList = l ++ le4 s.data.toList.length ++ s.data.toList ++ List.replicate k 0 := by rw [putl, HK.out, List.append_assoc, List.append_assoc, List.append_assoc]
      have e2 : n + (putl s.data.toList).length = n + 4 + s.data.toList.length + k := by simp only [putl, List.length_append, List.length_replicate, HK.out, le4, List.length_cons, List.length_nil]; omega
      rw [e1, e2]
      exact ho

set_option maxRecDepth 100000 in
theorem putText_any (w : World) (a : Option Addr) (n c : Nat) (l : List UInt8) (hr : Rd w a n c l) (s : ByteArray) (hs : s.size ≤ 99999) (hn : n ≤ 140737488355320) :
    Calls Tryd.prog 37 #[.slice a n c, .string s] w fun e w' => ∃ r, e = .returned r ∧ w'.ownsRow w.heap.size 5 1 r (n + (putl (s.data.toList ++ [0])).length) (bc (l ++ putl (s.data.toList ++ [0]))) ∧ Below w.heap.size w w' := by
  have H : Hid (Calls Tryd.prog 38 #[.slice a n c, .string (s ++ ⟨#[0]⟩)] w fun e w' => ∃ r, e = .returned r ∧ w'.ownsRow w.heap.size 5 1 r (n + (putl (s.data.toList ++ [0])).length) (bc (l ++ putl (s.data.toList ++ [0]))) ∧ Below w.heap.size w w') := by
    have h := putList_any w a n c l hr (s ++ ⟨#[0]⟩) (by rw [ByteArray.size_append]; show s.size + 1 ≤ 100000; omega) hn
    have e : (s ++ (⟨#[0]⟩ : ByteArray)).data.toList = s.data.toList ++ [0] := by simp
    rw [e] at h
    exact h
  clear hr
  go_enter Tryd.func37, Tryd.ntmps37
  go_wp2_with fail
  refine H.out.mono ?_
  rintro e w1 ⟨r1, rfl, ho1, hb1⟩
  go_wp2
  go_ret
  exact ⟨_, rfl, ho1, hb1⟩

end Go.Proofs.YtoggnfadfocogaaDoor
