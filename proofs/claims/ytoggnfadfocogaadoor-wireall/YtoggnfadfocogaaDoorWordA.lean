/- The contracts of the program's word.Fixed, word.Whole, word.filled and word.Put: what each returns, for every argument of its kind; Put copies, and turns nothing that was there. -/
import Derived.Test.YtoggnfadfocogaaDoorLibA
import Derived.Test.YtoggnfadfocogaaDoorRows
import Derived.WalkKit
import Derived.WalkSpells
import Derived.WalkLawsBesides
import Derived.Outline
namespace Go.Proofs.YtoggnfadfocogaaDoor
open Go Go.RowKit

theorem infoU8 : (Tryd.prog.info? 5).map (fun i => (i.zero, i.size, i.bytes)) = some (some (.int .u8 0), 1, 1) := by kernel_rfl

def fixed (n : Int) : Int := min (max n (-8388608)) 8388607 * 256

theorem ret_int {k : IntKind} {a b : Int} (h : a = b) : Ending.returned (.int k a) = .returned (.int k b) := by rw [h]


theorem filled_any (n : Nat) (h : n ≤ 140737488355328) (w : World) :
    Calls Tryd.prog 47 #[.int .i64 n] w fun e w' => e = .returned (.int .i64 ((n + 3) / 4 * 4 : Nat)) ∧ w' = w := by
  go_enter Tryd.func47, Tryd.ntmps47
  go_wp2
  go_ret
  exact ⟨ret_int (by omega), rfl⟩

/-- A number's four bytes, the lowest first. -/
def le4 (v : Nat) : List UInt8 := [UInt8.ofNat v, UInt8.ofNat (v / 256), UInt8.ofNat (v / 65536), UInt8.ofNat (v / 16777216)]

theorem bc_le4 (v : Nat) (h : v < 4294967296) : bc (le4 v) = [.int .u8 ((v : Int) % 256), .int .u8 ((v : Int) / 256 % 256), .int .u8 ((v : Int) / 65536 % 256), .int .u8 ((v : Int) / 16777216)] := by
  simp only [bc, le4, List.map_cons, List.map_nil, UInt8.toNat_ofNat']
  congr 1
  congr 1
  congr 1
  congr 1
  congr 1
  omega

theorem put_done {w W' : World} {o : Obj} {e n : Nat} {v' : Value} {l k : List UInt8} (h2 : W'.ownsRow (w.alloc o).heap.size e 1 v' n (bc l ++ bc k)) (h3 : (w.alloc o).grownBy W' none) :
    W'.ownsRow w.heap.size e 1 v' n (bc (l ++ k)) ∧ Below w.heap.size w W' := by
  refine ⟨?_, ((Below.refl _ _).alloc (Nat.le_refl _) o).grown h3 (by simp) (fun k hk => by cases hk)⟩
  rw [bc_append]
  obtain ⟨q1, q2⟩ := h2
  refine ⟨q1, ?_⟩
  rcases q2 with q | ⟨g, cap, cur, e1, e2, e3⟩
  · exact .inl q
  · exact .inr ⟨g, cap, cur, e1, by simp at e2; omega, e3⟩

theorem cells4 (w : World) (c0 c1 c2 c3 : Value) (e : TypeId) : ∀ j u, [c0, c1, c2, c3][j]? = some u → (w.alloc (.cells #[c0, c1, c2, c3] e)).cell? ((⟨w.heap.size, 0, none⟩ : Addr).add j) = some u := by
  intro j u hu
  match j, hu with
  | 0, hu => simp at hu; subst hu; simp [Addr.add]
  | 1, hu => simp at hu; subst hu; simp [Addr.add]
  | 2, hu => simp at hu; subst hu; simp [Addr.add]
  | 3, hu => simp at hu; subst hu; simp [Addr.add]
  | j + 4, hu => simp at hu

theorem cells_le4 (w : World) (v : Nat) (h : v < 4294967296) (e : TypeId) : ∀ j u, (bc (le4 v))[j]? = some u → (w.alloc (.cells #[.int .u8 ((v : Int) % 256), .int .u8 ((v : Int) / 256 % 256), .int .u8 ((v : Int) / 65536 % 256), .int .u8 ((v : Int) / 16777216)] e)).cell? ((⟨w.heap.size, 0, none⟩ : Addr).add j) = some u := by
  rw [bc_le4 v h]
  exact cells4 _ _ _ _ _ _

set_option maxRecDepth 100000 in
theorem put_any (w : World) (a : Option Addr) (n c : Nat) (l : List UInt8) (hr : Rd w a n c l) (v : Nat) (h1 : v < 4294967296) (hn : n ≤ 140737488355320) :
    Calls Tryd.prog 27 #[.slice a n c, .int .u32 v] w fun e w' => ∃ r, e = .returned r ∧ w'.ownsRow w.heap.size 5 1 r (n + 4) (bc (l ++ le4 v)) ∧ Below w.heap.size w w' := by
  have hle := hr.le
  have hm := hr.max
  unfold maxLen at hm
  obtain ⟨i0, hi, hz0, hz1, hz2⟩ := info_parts infoU8
  have hb : (v : Int) < 4294967296 := by omega
  have hcl : ∀ x, a = some x → ∀ j u, (bc l)[j]? = some u → ∀ o, (w.alloc o).cell? (x.add j) = some u := fun x hx j u hu o => by
    have h := hr.cells x hx j u hu
    rw [World.cell?_alloc_lt _ _ _ (World.block_lt_of_cell? w _ h)]
    exact h
  have hln := hr.len
  have hnil := hr.hnil
  have K1 : Hid ((bc l).length = n * 1) := by rw [Hid, bc_length, Nat.mul_one]; exact hln
  have K4 : Hid (n + 4 ≤ maxLen) := by simp only [Hid, maxLen]; omega
  clear hr
  cases a with
  | none =>
    obtain rfl : c = 0 := hnil rfl
    obtain rfl : n = 0 := by omega
    go_enter Tryd.func27, Tryd.ntmps27
    go_wp2_with (at_builtin; refine wpList_append_grows _ rfl (.tmp 12) (.tmp 24) 27 rfl 5 i0 (.int .u8 0) 1 1 Tryd.underlying27 hi hz0 hz1 hz2 rfl (by decide) none 0 0 (bc l) rfl (fun _ => ⟨rfl, rfl⟩) K1.out (fun _ h => by cases h) ⟨w.heap.size, 0, none⟩ 4 4 (bc (le4 v)) rfl rfl (cells_le4 w v h1 _) (bc_one _) (by omega) K4.out (by omega) ?_; intro v' W' h2 h3)
    go_ret
    exact ⟨_, rfl, put_done h2 h3⟩
  | some x =>
    go_enter Tryd.func27, Tryd.ntmps27
    go_wp2_with (at_builtin; refine wpList_append_grows _ rfl (.tmp 12) (.tmp 24) 27 rfl 5 i0 (.int .u8 0) 1 1 Tryd.underlying27 hi hz0 hz1 hz2 rfl (by decide) (some x) n n (bc l) rfl (fun h => by cases h) K1.out (fun b hb j u hu => hcl b hb j u hu _) ⟨w.heap.size, 0, none⟩ 4 4 (bc (le4 v)) rfl rfl (cells_le4 w v h1 _) (bc_one _) (by omega) K4.out (by omega) ?_; intro v' W' h2 h3)
    go_ret
    exact ⟨_, rfl, put_done h2 h3⟩
end Go.Proofs.YtoggnfadfocogaaDoor
