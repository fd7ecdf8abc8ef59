/- The contracts of the program's word.Fixed, word.Whole, word.filled and word.Put: what each returns, for every argument of its kind; Put copies, and turns nothing that was there. -/
import Derived.Test.YtfbebifbfpkdaaaDoorLibA
import Derived.Test.YtfbebifbfpkdaaaDoorRows
import Derived.WalkKit
import Derived.WalkSpells
import Derived.WalkLawsBesides
import Derived.Outline
namespace Go.Proofs.YtfbebifbfpkdaaaDoor
open Go Go.RowKit

theorem infoU8 : (Tryd.prog.info? 5).map (fun i => (i.zero, i.size, i.bytes)) = some (some (.int .u8 0), 1, 1) := by kernel_rfl

def fixed (n : Int) : Int := min (max n (-8388608)) 8388607 * 256

theorem ret_int {k : IntKind} {a b : Int} (h : a = b) : Ending.returned (.int k a) = .returned (.int k b) := by rw [h]



/-- A number's four bytes, the lowest first. -/
def le4 (v : Nat) : List UInt8 := [UInt8.ofNat v, UInt8.ofNat (v / 256), UInt8.ofNat (v / 65536), UInt8.ofNat (v / 16777216)]

theorem bc_le4 (v : Nat) (h : v < 4294967296) : bc (le4 v) = [.int .u8 ((v : Int) % 256), .int .u8 ((v : Int) / 256 % 256), .int .u8 ((v : Int) / 65536 % 256), .int .u8 ((v : Int) / 16777216)] := by
  simp only [bc, le4, List.map_cons, List.map_nil, UInt8.toNat_ofNat']
  congr 1
  congr 1
  congr 1
  congr 1
  congr 1
  omega

theorem put_done {w W' : World} {o : Obj} {e n : Nat} {v' : Value} {l k : List UInt8} (h2 : W'.ownsRow (w.alloc o).heap.size e 1 v' n (bc l ++ bc k)) (h3 : (w.alloc o).grownBy W' none) :
    W'.ownsRow w.heap.size e 1 v' n (bc (l ++ k)) ∧ Below w.heap.size w W' := by
  refine ⟨?_, ((Below.refl _ _).alloc (Nat.le_refl _) o).grown h3 (by simp) (fun k hk => by cases hk)⟩
  rw [bc_append]
  obtain ⟨q1, q2⟩ := h2
  refine ⟨q1, ?_⟩
  rcases q2 with q | ⟨g, cap, cur, e1, e2, e3⟩
  · exact .inl q
  · exact .inr ⟨g, cap, cur, e1, by simp at e2; omega, e3⟩

theorem cells4 (w : World) (c0 c1 c2 c3 : Value) (e : TypeId) : ∀ j u, [c0, c1, c2, c3][j]? = some u → (w.alloc (.cells #[c0, c1, c2, c3] e)).cell? ((⟨w.heap.size, 0, none⟩ : Addr).add j) = some u := by
  intro j u hu
  match j, hu with
  | 0, hu => simp at hu; subst hu; simp [Addr.add]
  | 1, hu => simp at hu; subst hu; simp [Addr.add]
  | 2, hu => simp at hu; subst hu; simp [Addr.add]
  | 3, hu => simp at hu; subst hu; simp [Addr.add]
  | j + 4, hu => simp at hu

theorem cells_le4 (w : World) (v : Nat) (h : v < 4294967296) (e : TypeId) : ∀ j u, (bc (le4 v))[j]? = some u → (w.alloc (.cells #[.int .u8 ((v : Int) % 256), .int .u8 ((v : Int) / 256 % 256), .int .u8 ((v : Int) / 65536 % 256), .int .u8 ((v : Int) / 16777216)] e)).cell? ((⟨w.heap.size, 0, none⟩ : Addr).add j) = some u := by
  rw [bc_le4 v h]
  exact cells4 _ _ _ _ _ _

end Go.Proofs.YtfbebifbfpkdaaaDoor
