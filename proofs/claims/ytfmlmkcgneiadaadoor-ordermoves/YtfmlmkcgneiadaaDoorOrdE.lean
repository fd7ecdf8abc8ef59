/- The program's orders: Top, beside, Above, Below. -/
import Derived.Test.YtfmlmkcgneiadaaDoorOrdD
namespace Go.Proofs.YtfmlmkcgneiadaaDoor
open Go Go.RowKit

set_option maxRecDepth 100000 in
theorem top_any (a : Option Addr) (n c : Nat) (l : List Int) (k : Int) (w : World) (p : Addr) (hp : Pl w p) (h : Rz w a n c l) (hn : n ≤ 1000000) :
    Calls Tryd.prog 14 #[.slice a n c, .int .i64 k] w fun e w' => ∃ v, e = .returned v ∧ OwZ w w' v (dr k l ++ [k]) := by
  have HD := hid (drop_any a n c l k w p hp h hn)
  have hdl := dr_length k l
  rw [h.len] at hdl
  clear h hp
  go_enter Tryd.func14, Tryd.ntmps14
  go_wp2_with fail
  refine HD.out.mono ?_
  rintro e w1 ⟨v1, rfl, ho1⟩
  obtain ⟨a1, c1, rfl, hr1, -⟩ := ho1.rd
  have hs := hr1.small
  have HI := hid (insert_any a1 _ c1 _ (dr k l).length k w1 hr1 (Nat.le_refl _) (by omega))
  have HB := hid ho1.bel
  rw [ins_end] at HI
  clear ho1 hr1 HD
  generalize (dr k l).length = m at *
  go_wp2_with fail
  refine HI.out.mono ?_
  rintro e w2 ⟨v2, rfl, ho2⟩
  have HO := hid (ho2.base HB.out)
  clear ho2 HI HB
  go_wp2
  go_ret
  exact ⟨_, rfl, HO.out⟩

/-- What Above and Below answer. -/
def BesR (w : World) (p : Addr) (r : Option (List Int)) (e : Ending) (w' : World) : Prop := match r with
  | none => e = .returned (.tuple #[.slice none 0 0, .iface 61 (.pointer (some p))]) ∧ Below w.heap.size w w'
  | some m => ∃ v, e = .returned (.tuple #[v, .nilIface]) ∧ OwZ w w' v m

theorem bes_length {l m : List Int} {id by_ : Int} {b : Nat} (h : bes l id by_ b = some m) : m.length ≤ l.length + 1 := by
  unfold bes at h
  split at h
  · cases h
  · obtain ⟨i, _, rfl⟩ := Option.map_eq_some_iff.1 h
    rw [ins_length]
    have := dr_length id l
    omega

set_option maxRecDepth 100000 in
set_option maxHeartbeats 1000000 in
theorem beside_any (a : Option Addr) (n c : Nat) (l : List Int) (id by_ : Int) (b : Nat) (hb1 : b ≤ 1) (w : World) (p : Addr) (hp : Pl w p) (h : Rz w a n c l) (hn : n ≤ 1000000) :
    Calls Tryd.prog 20 #[.slice a n c, .int .i64 id, .int .i64 by_, .int .i64 b] w fun e w' => BesR w p (bes l id by_ b) e w' := by
  have HH := hid (has_any a n c l id w p hp h)
  have HD := hid (fun q => drop_any a n c l id (w.drewN q) p (hp.drewN q) (h.drewN q) hn)
  have HP := hid hp
  have hdl := dr_length id l
  rw [h.len] at hdl
  clear h hp
  go_enter Tryd.func20, Tryd.ntmps20
  cases hx : ix id l with
  | none =>
    rw [hx] at HH
    have HE : Hid (bes l id by_ b = none) := by rw [Hid, bes, hx]
    clear hx
    go_wp2_with fail
    refine HH.out.mono ?_
    rintro e w1 ⟨rfl, q, rfl⟩
    have c0 := HP.out.c
    go_wp2
    go_quiet (fail)
    go_wp2
    go_ret2
    rw [HE.out]
    exact ⟨rfl, below_drewN (below_drewN (Below.refl _ _) _) _⟩
  | some j =>
    rw [hx] at HH
    have HE : Hid (bes l id by_ b = (ix by_ (dr id l)).map fun i => ins (dr id l) (i + b) id) := by rw [Hid, bes, hx]
    clear hx
    go_wp2_with fail
    refine HH.out.mono ?_
    rintro e w1 ⟨rfl, q, rfl⟩
    go_wp2_with fail
    refine (HD.out q).mono ?_
    rintro e w2 ⟨v2, rfl, ho2⟩
    have ho3 := ho2.base (below_drewN (Below.refl _ _) q)
    obtain ⟨a2, c2, rfl, hr2, -⟩ := ho2.rd
    have hs := hr2.small
    have HB := hid ho3.bel
    have HR := hid hr2
    have HF := hid (first_any a2 _ c2 _ by_ w2 p (HP.out.on ho3.bel) hr2)
    clear ho2 ho3 hr2 HD HH
    have HL : Hid (∀ i, ix by_ (dr id l) = some i → i < (dr id l).length) := fun i hi => (ix_some hi).1
    generalize dr id l = L at *
    cases hy : ix by_ L with
    | none =>
      rw [fstV_none hy] at HF
      rw [hy] at HE
      clear hy HL
      go_wp2_with fail
      refine HF.out.mono ?_
      rintro e w3 ⟨rfl, q3, rfl⟩
      go_wp2
      go_ret2
      rw [HE.out]
      exact ⟨rfl, below_drewN HB.out _⟩
    | some i =>
      rw [fstV_some hy] at HF
      rw [hy] at HE
      have hi := HL.out i hy
      have HI := hid (fun q => insert_any a2 _ c2 L (i + b) id (w2.drewN q) (HR.out.drewN q) (by omega) (by omega))
      rw [show ((i + b : Nat) : Int) = (i : Int) + b by omega] at HI
      clear hy HL HR
      go_wp2_with fail
      refine HF.out.mono ?_
      rintro e w3 ⟨rfl, q3, rfl⟩
      go_wp2_with fail
      refine (HI.out q3).mono ?_
      rintro e w4 ⟨v4, rfl, ho4⟩
      have HO := hid (ho4.base (below_drewN HB.out q3))
      clear ho4 HI
      go_wp2
      go_ret2
      rw [HE.out]
      exact ⟨_, rfl, HO.out⟩

set_option maxRecDepth 100000 in
theorem above_any (a : Option Addr) (n c : Nat) (l : List Int) (id by_ : Int) (w : World) (p : Addr) (hp : Pl w p) (h : Rz w a n c l) (hn : n ≤ 1000000) :
    Calls Tryd.prog 8 #[.slice a n c, .int .i64 id, .int .i64 by_] w fun e w' => BesR w p (bes l id by_ 1) e w' := by
  have HB : Hid (Calls Tryd.prog 20 #[.slice a n c, .int .i64 id, .int .i64 by_, .int .i64 1] w fun e w' => BesR w p (bes l id by_ 1) e w') := beside_any a n c l id by_ 1 (by omega) w p hp h hn
  clear h hp
  go_enter Tryd.func8, Tryd.ntmps8
  go_wp2_with fail
  refine HB.out.mono ?_
  rintro e w1 h1
  cases hr : bes l id by_ 1 with
  | none =>
    rw [hr] at h1
    obtain ⟨rfl, hb⟩ := h1
    have HZ := hid hb
    have HR := hid hr
    clear hb hr HB
    go_wp2
    go_ret2
    rw [HR.out]
    exact ⟨rfl, HZ.out⟩
  | some m =>
    rw [hr] at h1
    obtain ⟨v, rfl, ho⟩ := h1
    have HZ := hid ho
    have HR := hid hr
    clear ho hr HB
    go_wp2
    go_ret2
    rw [HR.out]
    exact ⟨_, rfl, HZ.out⟩

set_option maxRecDepth 100000 in
theorem below_any (a : Option Addr) (n c : Nat) (l : List Int) (id by_ : Int) (w : World) (p : Addr) (hp : Pl w p) (h : Rz w a n c l) (hn : n ≤ 1000000) :
    Calls Tryd.prog 10 #[.slice a n c, .int .i64 id, .int .i64 by_] w fun e w' => BesR w p (bes l id by_ 0) e w' := by
  have HB : Hid (Calls Tryd.prog 20 #[.slice a n c, .int .i64 id, .int .i64 by_, .int .i64 0] w fun e w' => BesR w p (bes l id by_ 0) e w') := beside_any a n c l id by_ 0 (by omega) w p hp h hn
  clear h hp
  go_enter Tryd.func10, Tryd.ntmps10
  go_wp2_with fail
  refine HB.out.mono ?_
  rintro e w1 h1
  cases hr : bes l id by_ 0 with
  | none =>
    rw [hr] at h1
    obtain ⟨rfl, hb⟩ := h1
    have HZ := hid hb
    have HR := hid hr
    clear hb hr HB
    go_wp2
    go_ret2
    rw [HR.out]
    exact ⟨rfl, HZ.out⟩
  | some m =>
    rw [hr] at h1
    obtain ⟨v, rfl, ho⟩ := h1
    have HZ := hid ho
    have HR := hid hr
    clear ho hr HB
    go_wp2
    go_ret2
    rw [HR.out]
    exact ⟨_, rfl, HZ.out⟩
end Go.Proofs.YtfmlmkcgneiadaaDoor
