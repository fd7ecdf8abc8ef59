/- A shell of the law's own: what is read of it, and the law's example. -/
import Derived.Test.YtnlaegleekghmaaDoorShG
namespace Go.Proofs.YtnlaegleekghmaaDoor
open Go Go.RowKit

variable {es : List Addr} {w0 w w' : World} {p mm : Nat} {F : Wo} {X : List Nat}
theorem Ex.bel (h : Ex (Sp es w0 p mm F) w) : RowKit.Below w0.heap.size w0 w := let ⟨_, h⟩ := h; h.1
theorem Ex.has (h : Ex (Sp es w0 p mm F) w) (id : Int) (hi : Bw id) : Calls Tryd.prog 25 #[.pointer (some ⟨p, 0, none⟩), .int .i64 id] w fun e w' => e = .returned (.bool (wHas F id)) ∧ Ex (Sp es w0 p mm F) w' := by
  obtain ⟨X, h⟩ := h
  exact (h.has id hi).mono fun _ _ ⟨h1, h2⟩ => ⟨h1, X, h2 ▸ h⟩
theorem Ex.istop (h : Ex (Sp es w0 p mm F) w) (id : Int) (hi : Bw id) : Calls Tryd.prog 26 #[.pointer (some ⟨p, 0, none⟩), .int .i64 id] w fun e w' => e = .returned (.bool (wIsTop F id)) ∧ Ex (Sp es w0 p mm F) w' := by
  obtain ⟨X, h⟩ := h
  exact (h.istop id hi).mono fun _ _ ⟨h1, q, h2⟩ => ⟨h1, X, h2 ▸ (sp_ft _ _ _ _ _).on h (below_drew1 w q)⟩
theorem Ex.mapd (h : Ex (Sp es w0 p mm F) w) (id : Int) (hi : Bw id) : Calls Tryd.prog 28 #[.pointer (some ⟨p, 0, none⟩), .int .i64 id] w fun e w' => e = .returned (.bool (wMapd F id)) ∧ Ex (Sp es w0 p mm F) w' := by
  obtain ⟨X, h⟩ := h
  exact (h.mapd id hi).mono fun _ _ ⟨h1, q, h2⟩ => ⟨h1, X, h2 ▸ (sp_ft _ _ _ _ _).on h (below_drew1 w q)⟩
theorem Ex.waits (h : Ex (Sp es w0 p mm F) w) (hm : mm ≤ 900) (id : Int) (hi : Bw id) : Calls Tryd.prog 30 #[.pointer (some ⟨p, 0, none⟩), .int .i64 id] w fun e w' => ∃ a c, e = .returned (.slice a (wSer F id).length c) ∧ Rz w' a (wSer F id).length c (wSer F id) ∧ Ex (Sp es w0 p mm F) w' := by
  obtain ⟨X, h⟩ := h
  exact (h.waits hm id hi).mono fun _ _ ⟨a, c, h1, h2, h3⟩ => ⟨a, c, h1, h2, X, (sp_ft _ _ _ _ _).on h h3⟩
theorem Ex.kind (h : Ex (Sp es w0 p mm F) w) (k : Nat) (hk : k ≤ 16) : Calls Tryd.prog 9 #[erv es k] w fun e w' => e = .returned (.int .i64 k) ∧ Ex (Sp es w0 p mm F) w' := by
  obtain ⟨X, h⟩ := h
  exact (h.kind k hk).mono fun _ _ ⟨h1, h2⟩ => ⟨h1, X, (sp_ft _ _ _ _ _).on h h2⟩
theorem bw1 : Bw 1 := ⟨by decide, by decide⟩
theorem bw2 : Bw 2 := ⟨by decide, by decide⟩
theorem bw5 : Bw 5 := ⟨by decide, by decide⟩

set_option maxRecDepth 100000 in
set_option maxHeartbeats 1000000 in
theorem sawake_any (w : World) (hE : Errs w gerrs es) : Calls Tryd.prog 31 #[] w fun e w' => e = .returned (.bool true) ∧ Below w.heap.size w w' := by
  have CN := hid (sp_new w w (Below.refl _ _) hE)
  clear hE
  go_enter Tryd.func31, Tryd.ntmps31
  go_wp2_with fail
  refine CN.out.mono ?_
  rintro e w1 ⟨p, X, rfl, hp1, -, -⟩
  have C1 : Hid (Calls Tryd.prog 10 #[.pointer (some ⟨p, 0, none⟩), .int .i64 1, .bool false] w1 fun e w' => e = .returned .nilIface ∧ Ex (Sp es w p 1 [(1, ⟨0, []⟩)]) w') := (sp_add (by decide) 1 bw1 false).ex ⟨X, hp1⟩
  clear hp1 CN
  go_wp2_with fail
  refine C1.out.mono ?_
  rintro e w2 ⟨rfl, hp2⟩
  have C2 : Hid (Calls Tryd.prog 14 #[.pointer (some ⟨p, 0, none⟩), .int .i64 1] w2 fun e w' => e = .returned .nilIface ∧ Ex (Sp es w p 2 [(1, ⟨1, []⟩)]) w') := (sp_top (by decide) 1 bw1).ex hp2
  clear hp2 C1
  go_wp2_with fail
  refine C2.out.mono ?_
  rintro e w3 ⟨rfl, hp3⟩
  have C3 : Hid (Calls Tryd.prog 22 #[.pointer (some ⟨p, 0, none⟩), .int .i64 1, .bool false, .bool false] w3 fun e w' => e = .returned (.tuple #[.int .i64 1, .nilIface]) ∧ Ex (Sp es w p 3 [(1, ⟨2, []⟩)]) w') := (sp_com (by decide) 1 bw1 false false).ex hp3
  clear hp3 C2
  go_wp2_with fail
  refine C3.out.mono ?_
  rintro e w4 ⟨rfl, hp4⟩
  have C4 : Hid (Calls Tryd.prog 18 #[.pointer (some ⟨p, 0, none⟩), .int .i64 1, .int .i64 7] w4 fun e w' => e = .returned .nilIface ∧ Ex (Sp es w p 4 [(1, ⟨2, [7]⟩)]) w') := (sp_snd (by decide) 1 bw1 7).ex hp4
  clear hp4 C3
  go_wp2_with fail
  refine C4.out.mono ?_
  rintro e w5 ⟨rfl, hp5⟩
  have C5 : Hid (Calls Tryd.prog 20 #[.pointer (some ⟨p, 0, none⟩), .int .i64 1, .int .i64 7] w5 fun e w' => e = .returned .nilIface ∧ Ex (Sp es w p 5 [(1, ⟨3, []⟩)]) w') := (sp_ack (by decide) 1 bw1 7).ex hp5
  clear hp5 C4
  go_wp2_with fail
  refine C5.out.mono ?_
  rintro e w6 ⟨rfl, hp6⟩
  have C6 : Hid (Calls Tryd.prog 22 #[.pointer (some ⟨p, 0, none⟩), .int .i64 1, .bool true, .bool true] w6 fun e w' => e = .returned (.tuple #[.int .i64 2, .nilIface]) ∧ Ex (Sp es w p 6 [(1, ⟨4, []⟩)]) w') := (sp_com (by decide) 1 bw1 true true).ex hp6
  clear hp6 C5
  go_wp2_with fail
  refine C6.out.mono ?_
  rintro e w7 ⟨rfl, hp7⟩
  have C7 : Hid (Calls Tryd.prog 28 #[.pointer (some ⟨p, 0, none⟩), .int .i64 1] w7 fun e w' => e = .returned (.bool true) ∧ Ex (Sp es w p 6 [(1, ⟨4, []⟩)]) w') := hp7.mapd 1 bw1
  clear hp7 C6
  go_wp2_with fail
  refine C7.out.mono ?_
  rintro e w8 ⟨rfl, hp8⟩
  have HB := hid hp8.bel
  clear hp8 C7
  go_wp2
  go_ret
  exact ⟨rfl, HB.out⟩
theorem Ex.awake (h : Ex (Sp es w0 p mm F) w) : Calls Tryd.prog 31 #[] w fun e w' => e = .returned (.bool true) ∧ RowKit.Below w0.heap.size w0 w' := by
  obtain ⟨X, h1, h2, _⟩ := h
  exact (sawake_any w (h2.below h1)).mono fun _ _ ⟨h3, h4⟩ => ⟨h3, Below.on h1 h4⟩
end Go.Proofs.YtnlaegleekghmaaDoor
