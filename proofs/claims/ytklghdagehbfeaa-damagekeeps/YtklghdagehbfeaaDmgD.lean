/- tableaulaw09's awake. -/
import Derived.Test.YtklghdagehbfeaaDmgB
namespace Go.Proofs.Ytklghdagehbfeaa
open Go Go.RowKit

theorem dput_nil {r : Rc} (k : Ck r) : dput [] r = [r] := by
  have hd := dor reg_nil r
  have e : mk or [] (ofl r) = [r] := reg_eq hd.1 (reg_one k) fun x y => by rw [hd.2, ofl_ck k, pt_nil, Bool.false_or]
  rw [dput, e, if_neg (by simp)]
theorem ex_add : dput (dfl []) ⟨0, 0, 2, 2⟩ = [⟨0, 0, 2, 2⟩] := dput_nil ⟨by decide, by decide, by decide, by decide, by decide, by decide⟩
theorem ex_clip : mk and (dfl [⟨0, 0, 2, 2⟩]) (ofl ⟨5, 0, 1, 1⟩) = [] := by
  have k1 : Ck ⟨0, 0, 2, 2⟩ := ⟨by decide, by decide, by decide, by decide, by decide, by decide⟩
  have k2 : Ck ⟨5, 0, 1, 1⟩ := ⟨by decide, by decide, by decide, by decide, by decide, by decide⟩
  rw [show dfl [⟨0, 0, 2, 2⟩] = dput [] ⟨0, 0, 2, 2⟩ from rfl, dput_nil k1, ofl_ck k2]
  obtain ⟨h1, h2, _⟩ := mk_all (f := and) rfl (reg_one k1).ck (reg_one k2).ck
  refine reg_eq h1 reg_nil fun x y => ?_
  rw [h2, pt_nil, ← Bool.not_eq_true, Bool.and_eq_true, pt_iff, pt_iff]
  simp only [List.mem_singleton, exists_eq_left, has_iff]
  omega

set_option maxRecDepth 100000 in
set_option maxHeartbeats 1000000 in
theorem dawake_any (w : World) : Calls Try.prog 7 #[] w fun e w' => e = .returned (.bool true) ∧ Below w.heap.size w w' := by
  have C1 := hid (dadd_any none 0 0 [] ⟨0, 0, 2, 2⟩ ⟨by decide, by decide, by decide, by decide⟩ w (RdC.nil w))
  rw [ex_add] at C1
  have hg := eqlR_guard
  have q := eqlR ⟨0, 0, 2, 2⟩ ⟨0, 0, 2, 2⟩
  rw [rceq_same] at q
  dsimp only at q
  go_enter Try.func7, Try.ntmps7
  go_wp2_with fail
  refine C1.out.mono ?_
  rintro e w1 ⟨a1, c1, rfl, h1, hb1⟩
  have HB1 := hid hb1
  obtain ⟨b, off, rfl, _, hel⟩ := h1.pl (by decide)
  obtain ⟨_, d0, d1, d2, d3⟩ := hel 0 ⟨0, 0, 2, 2⟩ rfl
  simp only [Nat.zero_mul, Nat.add_zero] at d0 d1 d2 d3
  have C2 := hid (fun u hu => dclip_any (some ⟨b, off, none⟩) 1 c1 [⟨0, 0, 2, 2⟩] ⟨5, 0, 1, 1⟩ ⟨by decide, by decide, by decide, by decide⟩ u hu)
  rw [ex_clip] at C2
  have H1 := hid h1
  clear h1 hb1 hel C1
  go_wp2_with fail
  refine (C2.out _ H1.out).mono ?_
  rintro e w2 ⟨a2, c2, rfl, h2, hb2⟩
  have HB2 := hid (Below.on HB1.out hb2)
  clear hb2 h2
  go_wp2
  go_ret
  exact ⟨rfl, HB2.out⟩
end Go.Proofs.Ytklghdagehbfeaa
