/- The program's orders: Index, first, Has, insert. -/
import Derived.Test.YtfedcpnnmkkpaaaDoorOrdA
import Derived.Test.YtfedcpnnmkkpaaaDoorLibE
import Derived.Deep.RegionLaw
namespace Go.Proofs.YtfedcpnnmkkpaaaDoor
open Go Go.RowKit

/-- ErrPlace's cell. -/
structure Pl (w : World) (p : Addr) : Prop where
  c : w.cell? ⟨0, 0, none⟩ = some (.iface 62 (.pointer (some p)))
theorem Pl.on {w u : World} {p : Addr} (h : Pl w p) (hb : Below w.heap.size w u) : Pl u p := ⟨by rw [hb.cell (World.block_lt_of_cell? w _ h.c)]; exact h.c⟩
theorem Pl.drewN {w : World} {p : Addr} (h : Pl w p) (q : Nat) : Pl (w.drewN q) p := h.on (below_drewN (Below.refl _ _) q)
/-- ErrPlace, or none. -/
def pe (p : Addr) : Bool → Value
  | true => .iface 62 (.pointer (some p))
  | false => .nilIface

theorem isz_nil (a : Addr) (w : World) :
    Calls Tryd.prog 24 #[.nilIface, .iface 62 (.pointer (some a))] w fun e w' => e = .returned (.bool false) ∧ w' = w := by
  have hq := run_eql_iface_nil_left (P := Tryd.prog) w 62 (.pointer (some a)) Tryd.underlying42
  go_enter Tryd.func24, Tryd.ntmps24
  go_wp2
  go_ret
  exact ⟨rfl, rfl⟩

/-- Where one stands, as a number. -/
def zxI (k : Int) (l : List Int) : Int := match zx k l with
  | some i => i
  | none => -1

set_option maxRecDepth 100000 in
theorem zindex_any (a : Option Addr) (n c : Nat) (l : List Int) (k : Int) (w : World) (h : Rz w a n c l) :
    Calls Tryd.prog 25 #[.slice a n c, .int .i64 k] w fun e w' => e = .returned (.int .i64 (zxI k l)) ∧ w' = w := by
  have hn63 := h.small.1
  have H := hid h
  have HL := hid h.len
  clear h
  go_enter Tryd.func25, Tryd.ntmps25
  go_wp2
  go_loopw [8] (fun i wr => ∃ j : Nat, i = .int .i64 j ∧ j ≤ n ∧ (∀ i y, i < j → l[i]? = some y → y ≠ k) ∧ wr = w) (fun i _ => n - (numOf i).toNat)
  case atStart => exact ⟨0, rfl, by omega, fun i y hi => absurd hi (by omega), rfl⟩
  case round =>
    obtain ⟨j, rfl, hj, hq, rfl⟩ := hrel
    by_cases hgo : j < n
    · have e1 : decide ((j : Int) < n) = true := decide_eq_true (by omega)
      have e2 : (j : Int) < n := by omega
      obtain ⟨bl, off, x, rfl, _, hx, c0⟩ := H.out.at_ hgo
      have HX := hid hx
      have HQ := hid hq
      clear hx hq
      cases hs : (k == x)
      · have hne : x ≠ k := fun e => by simp [e] at hs
        have HN : Hid (∀ i y, i < j + 1 → l[i]? = some y → y ≠ k) := fun i y hi hy => by
          rcases Nat.lt_or_ge i j with h' | h'
          · exact HQ.out i y h' hy
          · obtain rfl : i = j := by omega
            rw [HX.out] at hy
            cases hy
            exact hne
        clear hne
        go_wp2
        go_roundw
        case rel => exact ⟨j + 1, by go_num, by omega, HN.out, trivial⟩
        case measure => simp [numOf]; omega
      · have HE : Hid (zxI k l = j) := by
          have hke : x = k := by simpa using (beq_iff_eq.1 hs).symm
          rw [Hid, zxI, zx_drop HQ.out, zx_at HX.out, if_pos hke]
          simp
        go_wp2
        go_ret
        rw [HE.out]
        exact ⟨rfl, rfl⟩
    · have e1 : decide ((j : Int) < n) = false := decide_eq_false (by omega)
      have HE : Hid (zxI k l = -1) := by
        rw [Hid, zxI, zx_drop hq, List.drop_eq_nil_of_le (by rw [HL.out]; omega)]
        rfl
      clear hq
      go_wp2
      go_ret
      rw [HE.out]
      exact ⟨rfl, rfl⟩

/-- What first answers. -/
def fstV (p : Addr) (k : Int) (l : List Int) : Value := match zx k l with
  | some i => .tuple #[.int .i64 (i : Nat), pe p false]
  | none => .tuple #[.int .i64 0, pe p true]
theorem fstV_some {p : Addr} {k : Int} {l : List Int} {i : Nat} (h : zx k l = some i) : fstV p k l = .tuple #[.int .i64 (i : Nat), .nilIface] := by rw [fstV, h]; rfl
theorem fstV_none {p : Addr} {k : Int} {l : List Int} (h : zx k l = none) : fstV p k l = .tuple #[.int .i64 0, .iface 62 (.pointer (some p))] := by rw [fstV, h]; rfl

set_option maxRecDepth 100000 in
theorem ofirst_any (a : Option Addr) (n c : Nat) (l : List Int) (k : Int) (w : World) (p : Addr) (hp : Pl w p) (h : Rz w a n c l) :
    Calls Tryd.prog 23 #[.slice a n c, .int .i64 k] w fun e w' => e = .returned (fstV p k l) ∧ ∃ q, w' = w.drewN q := by
  have c0 := hp.c
  have HI := hid (zindex_any a n c l k w h)
  clear h hp
  go_enter Tryd.func23, Tryd.ntmps23
  cases hx : zx k l with
  | some i =>
    rw [zxI, hx] at HI
    have HF := hid (fstV_some (p := p) hx)
    have e0 : decide ((0 : Int) ≤ (i : Nat)) = true := decide_eq_true (by omega)
    clear hx
    go_wp2_with fail
    refine HI.out.mono ?_
    rintro e w1 ⟨rfl, rfl⟩
    go_wp2
    go_ret2
    rw [HF.out]
    exact ⟨rfl, 0, rfl⟩
  | none =>
    rw [zxI, hx] at HI
    have HF := hid (fstV_none (p := p) hx)
    clear hx
    go_wp2_with fail
    refine HI.out.mono ?_
    rintro e w1 ⟨rfl, rfl⟩
    go_wp2
    go_quiet (fail)
    go_wp2
    go_ret2
    rw [HF.out]
    exact ⟨rfl, _, rfl⟩


end Go.Proofs.YtfedcpnnmkkpaaaDoor
