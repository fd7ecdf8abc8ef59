/- The contracts of the program's word.ended and word.GetText, for every slice of bytes and every place; nothing that was there is turned. -/
import Derived.Test.YtoggnfadfocogaaDoorWordL
import Derived.Test.YtoggnfadfocogaaDoorWordB
import Derived.Lib.Bytealg
namespace Go.Proofs.YtoggnfadfocogaaDoor
open Go Go.RowKit

def ended (l : List UInt8) : Bool := !l.isEmpty && (Lib.indexByte l 0 == (l.length : Int) - 1)

theorem ext37 : ∀ (args : Array Value) (w : World), Sem.run Tryd.prog (callFunc 55 args) w = (Sem.run Tryd.prog (Extern.BytealgIndexByte.indexByte args) w).andThen fun v w' => Result.ok (Next.value v) w' :=
  @run_callFunc_extern Tryd.prog 55 _ Extern.BytealgIndexByte.indexByte Tryd.func55 (by kernel_rfl) (by kernel_rfl) (by kernel_rfl) (by kernel_rfl)

theorem ret_bool {a b : Bool} (h : a = b) : Ending.returned (.bool a) = .returned (.bool b) := by rw [h]
theorem data_toList (s : ByteArray) : s.toList = s.data.toList := Lib.toList_data s

theorem ended_any (s : ByteArray) (hs : s.size ≤ 1152921504606846976) (w : World) :
    Calls Tryd.prog 53 #[.string s] w fun e w' => e = .returned (.bool (ended s.data.toList)) ∧ w' = w := by
  have hx := ext37
  have hi := fun (c : Int) (u : World) => Lib.run_indexByteString (P := Tryd.prog) s c u
  have hsz := size_toList s
  by_cases h0 : s.toList.isEmpty = true
  · go_enter Tryd.func53, Tryd.ntmps53
    go_wp2
    go_ret
    have he : s.data.toList.isEmpty = true := by rw [← data_toList]; exact h0
    exact ⟨ret_bool (by simp only [ended, he]; rfl), rfl⟩
  · have h1 : s.toList.isEmpty = false := by simpa using h0
    clear h0
    go_enter Tryd.func53, Tryd.ntmps53
    go_wp2
    go_ret
    have he : s.data.toList.isEmpty = false := by rw [← data_toList]; exact h1
    exact ⟨ret_bool (by simp only [ended, he, hsz]; rfl), rfl⟩

/-! GetText's answer. -/
def txtE (l : List UInt8) (p : Int) : Nat := if lstE l p ≠ 0 then lstE l p else if ended (lstS l p) then 0 else 3
def txtS (l : List UInt8) (p : Int) : List UInt8 := if txtE l p = 0 then (lstS l p).dropLast else []
def txtN (l : List UInt8) (p : Int) : Nat := if txtE l p = 0 then lstN l p else 0

set_option maxRecDepth 100000 in
theorem getText_err (w : World) (a : Option Addr) (n c : Nat) (p : Int) (x : Addr)
    (H : Calls Tryd.prog 50 #[.slice a n c, .int .i64 p] w fun e w' => e = .returned (.tuple #[.string ⟨#[]⟩, .int .i64 0, .iface 106 (.pointer (some x))]) ∧ ∃ q, w' = w.drewN q) :
    Calls Tryd.prog 49 #[.slice a n c, .int .i64 p] w fun e w' => e = .returned (.tuple #[.string ⟨#[]⟩, .int .i64 0, .iface 106 (.pointer (some x))]) ∧ ∃ q, w' = w.drewN q := by
  have H' : Hid (Calls Tryd.prog 50 #[.slice a n c, .int .i64 p] w fun e w' => e = .returned (.tuple #[.string ⟨#[]⟩, .int .i64 0, .iface 106 (.pointer (some x))]) ∧ ∃ q, w' = w.drewN q) := H
  clear H
  go_enter Tryd.func49, Tryd.ntmps49
  go_wp2_with fail
  refine H'.out.mono ?_
  rintro e w2 ⟨rfl, q, rfl⟩
  go_wp2
  go_ret3
  exact ⟨rfl, _, rfl⟩

set_option maxRecDepth 100000 in
theorem getText_bytes (w : World) (a : Option Addr) (n c : Nat) (p : Int) (s : ByteArray) (m : Nat) (hs : s.size ≤ 1152921504606846976) (he : ended s.data.toList = false) (v3 : Value) (h3 : w.cell? ⟨1, 0, none⟩ = some v3)
    (H : Calls Tryd.prog 50 #[.slice a n c, .int .i64 p] w fun e w' => e = .returned (.tuple #[.string s, .int .i64 (m : Nat), .nilIface]) ∧ ∃ q, w' = w.drewN q) :
    Calls Tryd.prog 49 #[.slice a n c, .int .i64 p] w fun e w' => e = .returned (.tuple #[.string ⟨#[]⟩, .int .i64 0, v3]) ∧ ∃ q, w' = w.drewN q := by
  have H' : Hid (Calls Tryd.prog 50 #[.slice a n c, .int .i64 p] w fun e w' => e = .returned (.tuple #[.string s, .int .i64 (m : Nat), .nilIface]) ∧ ∃ q, w' = w.drewN q) := H
  have HE : Hid (∀ u, Calls Tryd.prog 53 #[.string s] u fun e w' => e = .returned (.bool false) ∧ w' = u) := fun u => by have h := ended_any s hs u; rw [he] at h; exact h
  clear H he
  go_enter Tryd.func49, Tryd.ntmps49
  go_wp2_with fail
  refine H'.out.mono ?_
  rintro e w2 ⟨rfl, q, rfl⟩
  go_wp2_with (go_at_call 53; refine (HE.out _).mono ?_; rintro e w' ⟨rfl, rfl⟩)
  go_quiet (fail)
  go_wp2
  go_ret3
  exact ⟨rfl, drewN2 _ _ _⟩

set_option maxRecDepth 100000 in
theorem getText_ok (w : World) (a : Option Addr) (n c : Nat) (p : Int) (s : ByteArray) (m : Nat) (hs : s.size ≤ 1152921504606846976) (h0 : 0 < s.size) (he : ended s.data.toList = true)
    (H : Calls Tryd.prog 50 #[.slice a n c, .int .i64 p] w fun e w' => e = .returned (.tuple #[.string s, .int .i64 (m : Nat), .nilIface]) ∧ ∃ q, w' = w.drewN q) :
    Calls Tryd.prog 49 #[.slice a n c, .int .i64 p] w fun e w' => e = .returned (.tuple #[.string (s.extract 0 (s.size - 1)), .int .i64 (m : Nat), .nilIface]) ∧ ∃ q, w' = w.drewN q := by
  have H' : Hid (Calls Tryd.prog 50 #[.slice a n c, .int .i64 p] w fun e w' => e = .returned (.tuple #[.string s, .int .i64 (m : Nat), .nilIface]) ∧ ∃ q, w' = w.drewN q) := H
  have HE : Hid (∀ u, Calls Tryd.prog 53 #[.string s] u fun e w' => e = .returned (.bool true) ∧ w' = u) := fun u => by have h := ended_any s hs u; rw [he] at h; exact h
  clear H he
  go_enter Tryd.func49, Tryd.ntmps49
  go_wp2_with fail
  refine H'.out.mono ?_
  rintro e w2 ⟨rfl, q, rfl⟩
  go_wp2_with (go_at_call 53; refine (HE.out _).mono ?_; rintro e w' ⟨rfl, rfl⟩)
  go_ret3
  exact ⟨rfl, _, rfl⟩

theorem extract_last (l : List UInt8) : (ByteArray.mk l.toArray).extract 0 ((ByteArray.mk l.toArray).size - 1) = ⟨l.dropLast.toArray⟩ := by
  apply ByteArray.ext
  apply Array.toList_inj.1
  rw [Lib.extract_data, List.drop_zero, Nat.sub_zero]
  show l.take (l.length - 1) = l.dropLast
  rw [List.dropLast_eq_take]

theorem lstS_le (l : List UInt8) (p : Int) : (lstS l p).length ≤ l.length := by
  unfold lstS
  split
  · rw [List.length_take, List.length_drop]; omega
  · exact Nat.zero_le _

theorem getText_any (w : World) (a : Option Addr) (n c : Nat) (l : List UInt8) (hr : Rd w a n c l) (hn : n ≤ 1152921504606846976) (es : List Addr) (hE : E4 w es) (p : Int) :
    Calls Tryd.prog 49 #[.slice a n c, .int .i64 p] w fun e w' => e = .returned (.tuple #[.string ⟨(txtS l p).toArray⟩, .int .i64 (txtN l p), erv es (txtE l p)]) ∧ ∃ q, w' = w.drewN q := by
  have HL := getList_any w a n c l hr hn es hE p
  have hle := lstS_le l p
  have hl := hr.len
  by_cases h0 : lstE l p = 0
  · rw [h0] at HL
    have hsz : (ByteArray.mk (lstS l p).toArray).size ≤ 1152921504606846976 := by show (lstS l p).length ≤ _; omega
    cases he : ended (lstS l p) with
    | false =>
      have e1 : txtE l p = 3 := by rw [txtE, if_neg (by rw [h0]; decide), he]; rfl
      have e2 : txtS l p = [] := by rw [txtS, e1]; rfl
      have e3 : txtN l p = 0 := by rw [txtN, e1]; rfl
      rw [e1, e2, e3]
      exact getText_bytes w a n c p _ _ hsz he _ hE.bytes HL
    | true =>
      have e1 : txtE l p = 0 := by rw [txtE, if_neg (by rw [h0]; decide), he]; rfl
      have e2 : txtS l p = (lstS l p).dropLast := by rw [txtS, if_pos e1]
      have e3 : txtN l p = lstN l p := by rw [txtN, if_pos e1]
      rw [e1, e2, e3, ← extract_last]
      have hpos : 0 < (ByteArray.mk (lstS l p).toArray).size := by
        show 0 < (lstS l p).length
        cases hx : lstS l p with
        | nil => rw [hx] at he; simp [ended] at he
        | cons _ _ => exact Nat.zero_lt_succ _
      exact getText_ok w a n c p _ _ hsz hpos he HL
  · have e1 : txtE l p = lstE l p := by rw [txtE, if_pos h0]
    have e2 : txtS l p = [] := by rw [txtS, e1, if_neg h0]
    have e3 : txtN l p = 0 := by rw [txtN, e1, if_neg h0]
    have f2 : lstS l p = [] := by rw [lstS, if_neg h0]
    have f3 : lstN l p = 0 := by rw [lstN, if_neg h0]
    rw [e1, e2, e3]
    rw [f2, f3] at HL
    obtain ⟨m, hm⟩ : ∃ m, lstE l p = m + 1 := ⟨lstE l p - 1, by omega⟩
    rw [hm] at HL ⊢
    exact getText_err w a n c p _ HL
end Go.Proofs.YtoggnfadfocogaaDoor
