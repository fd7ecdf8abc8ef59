/- slices.Clone of numbers, as the program bears it. -/
import Derived.Test.YtfedcpnnmkkpaaaDoorLibI
namespace Go.Proofs.YtfedcpnnmkkpaaaDoor
open Go Go.RowKit

theorem eqlZ0 (w : World) : (binOp BinOp.eql 22 (.slice none 0 0) (.slice none 0 0)).run Tryd.prog w = .ok (.bool true) w := by kernel_rfl
theorem eqlZ1 (x : Addr) (n c : Nat) (w : World) : (binOp BinOp.eql 22 (.slice (some x) n c) (.slice none 0 0)).run Tryd.prog w = .ok (.bool false) w := by kernel_rfl
theorem own_emptyZ (w : World) : (w.alloc (.cells #[] 3)).ownsRow w.heap.size 3 1 (.slice (some ⟨w.heap.size, 0, none⟩) 0 0) 0 [] :=
  ⟨by simp, .inr ⟨w.heap.size, 0, #[], rfl, Nat.le_refl _, heap_alloc_new w _, Nat.le_refl _, Nat.zero_le _, by simp, by simp⟩⟩
set_option maxRecDepth 100000 in
set_option maxHeartbeats 1000000 in
theorem sclone_any (s : Option Addr) (n c : Nat) (l : List Int) (w : World) (hr : Rz w s n c l) (hn : n ≤ 1000000) :
    Calls Tryd.prog 20 #[.slice s n c] w fun e w' => ∃ v, e = .returned v ∧ OwZ w w' v l := by
  obtain ⟨i0, hi, hz0, hz1, hz2⟩ := infoZp
  have HL := hid hr.len
  have hb : Below w.heap.size w (w.alloc (.cells #[] 3)) := (Below.refl _ _).alloc (Nat.le_refl _) _
  have HS := hid ((hr.on hb).src (P := Tryd.prog) (t := 22) (e := 3) Tryd.underlying22)
  have HO := hid (own_emptyZ w)
  have HB := hid hb
  cases s with
  | none =>
    have h1 := hr.hnil rfl
    have h2 := hr.le
    obtain rfl : n = 0 := by omega
    obtain rfl : c = 0 := h1
    have q0 := eqlZ0
    obtain rfl : l = [] := List.eq_nil_of_length_eq_zero HL.out
    clear hr hb HS HO
    go_enter Tryd.func20, Tryd.ntmps20
    go_wp2
    go_ret
    exact ⟨_, rfl, OwZ.nil _⟩
  | some x =>
    have q0 := eqlZ1
    clear hr hb
    go_enter Tryd.func20, Tryd.ntmps20
    go_wp2_with (at_builtin; refine wpList_append_own_src _ rfl (.tmp 5) (.tmp 6) 22 22 rfl w.heap.size 3 i0 (.int .i64 0) 1 8 Tryd.underlying22 hi hz0 hz1 hz2 rfl _ _ _ rfl HO.out _ _ _ rfl HS.out (by simp only [maxLen]; omega) (fitsZ (by omega)) HB.out.size ?_; intro v3 w3 o3 g3; have HO3 := hid o3; have HG3 := hid g3; clear o3 g3)
    go_ret
    have h3 := HO3.out
    rw [Nat.zero_add, List.nil_append] at h3
    refine ⟨_, rfl, by rw [HL.out]; exact h3, ?_⟩
    exact HB.out.trans ((kp_of_grown HG3.out).below HB.out.size (fun k hk => Nat.le_of_eq (List.mem_singleton.1 (show k ∈ [w.heap.size] from hk)).symm))
end Go.Proofs.YtfedcpnnmkkpaaaDoor
