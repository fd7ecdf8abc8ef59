/- ShellMaps: for all four truths the call returns true; nothing that was there has turned. Written by shell/mk_maps.py. -/
import Derived.Test.YtnlaegleekghmaaDoorShH
namespace Go.Proofs.YtnlaegleekghmaaDoor.shellMaps
open Go Go.RowKit

set_option maxRecDepth 100000 in
set_option maxHeartbeats 2000000 in
theorem c0 (acks again : Bool) (w : World) (es : List Addr) (hE : Errs w gerrs es) : Calls Tryd.prog 5 #[.bool false, .bool acks, .bool false, .bool again] w fun e w' => e = .returned (.bool true) ∧ Below w.heap.size w w' := by
  have CN := hid (sp_new w w (Below.refl _ _) hE)
  clear hE
  go_enter Tryd.func5, Tryd.ntmps5
  go_wp2_with fail
  refine CN.out.mono ?_
  rintro e w1 ⟨p, X, rfl, hp0, -, -⟩
  have hp1 : Ex (Sp es w p 0 []) w1 := ⟨X, hp0⟩
  clear hp0
  have C1 : Hid (Calls Tryd.prog 10 #[.pointer (some ⟨p, 0, none⟩), .int .i64 1, .bool false] w1 fun e w' => e = .returned .nilIface ∧ Ex (Sp es w p 1 [(1, ⟨0, []⟩)]) w') := (sp_add (by decide) 1 bw1 false).ex hp1
  clear hp1 CN
  go_wp2_with fail
  refine C1.out.mono ?_
  rintro e w2 ⟨rfl, hp2⟩
  have C2 : Hid (Calls Tryd.prog 14 #[.pointer (some ⟨p, 0, none⟩), .int .i64 1] w2 fun e w' => e = .returned .nilIface ∧ Ex (Sp es w p 2 [(1, ⟨1, []⟩)]) w') := (sp_top (by decide) 1 bw1).ex hp2
  clear hp2 C1
  go_wp2_with fail
  refine C2.out.mono ?_
  rintro e w3 ⟨rfl, hp3⟩
  have C3 : Hid (Calls Tryd.prog 22 #[.pointer (some ⟨p, 0, none⟩), .int .i64 1, .bool false, .bool false] w3 fun e w' => e = .returned (.tuple #[.int .i64 1, .nilIface]) ∧ Ex (Sp es w p 3 [(1, ⟨2, []⟩)]) w') := (sp_com (by decide) 1 bw1 false false).ex hp3
  clear hp3 C2
  go_wp2_with fail
  refine C3.out.mono ?_
  rintro e w4 ⟨rfl, hp4⟩
  have C4 : Hid (Calls Tryd.prog 28 #[.pointer (some ⟨p, 0, none⟩), .int .i64 1] w4 fun e w' => e = .returned (.bool false) ∧ Ex (Sp es w p 3 [(1, ⟨2, []⟩)]) w') := hp4.mapd 1 bw1
  clear hp4 C3
  go_wp2_with fail
  refine C4.out.mono ?_
  rintro e w5 ⟨rfl, hp5⟩
  have C5 : Hid (Calls Tryd.prog 28 #[.pointer (some ⟨p, 0, none⟩), .int .i64 1] w5 fun e w' => e = .returned (.bool false) ∧ Ex (Sp es w p 3 [(1, ⟨2, []⟩)]) w') := hp5.mapd 1 bw1
  clear hp5 C4
  go_wp2_with fail
  refine C5.out.mono ?_
  rintro e w6 ⟨rfl, hp6⟩
  have C6 : Hid (Calls Tryd.prog 28 #[.pointer (some ⟨p, 0, none⟩), .int .i64 1] w6 fun e w' => e = .returned (.bool false) ∧ Ex (Sp es w p 3 [(1, ⟨2, []⟩)]) w') := hp6.mapd 1 bw1
  clear hp6 C5
  go_wp2_with fail
  refine C6.out.mono ?_
  rintro e w7 ⟨rfl, hp7⟩
  have C7 : Hid (Calls Tryd.prog 12 #[.pointer (some ⟨p, 0, none⟩), .int .i64 1] w7 fun e w' => e = .returned (.iface 88 (.pointer (some (es.getD 11 ⟨0, 0, none⟩)))) ∧ Ex (Sp es w p 4 [(1, ⟨2, []⟩)]) w') := (sp_drp (by decide) 1 bw1).ex hp7
  clear hp7 C6
  go_wp2_with fail
  refine C7.out.mono ?_
  rintro e w8 ⟨rfl, hp8⟩
  have C8 : Hid (Calls Tryd.prog 9 #[(.iface 88 (.pointer (some (es.getD 11 ⟨0, 0, none⟩))))] w8 fun e w' => e = .returned (.int .i64 12) ∧ Ex (Sp es w p 4 [(1, ⟨2, []⟩)]) w') := hp8.kind 12 (by decide)
  clear hp8 C7
  go_wp2_with fail
  refine C8.out.mono ?_
  rintro e w9 ⟨rfl, hp9⟩
  have C9 := hid hp9.awake
  clear hp9 C8
  go_wp2_with fail
  refine C9.out.mono ?_
  rintro e w10 ⟨rfl, hb⟩
  have HB := hid hb
  clear hb C9
  go_wp2
  go_ret
  exact ⟨rfl, HB.out⟩

set_option maxRecDepth 100000 in
set_option maxHeartbeats 2000000 in
theorem c1 (acks again : Bool) (w : World) (es : List Addr) (hE : Errs w gerrs es) : Calls Tryd.prog 5 #[.bool false, .bool acks, .bool true, .bool again] w fun e w' => e = .returned (.bool true) ∧ Below w.heap.size w w' := by
  have CN := hid (sp_new w w (Below.refl _ _) hE)
  clear hE
  go_enter Tryd.func5, Tryd.ntmps5
  go_wp2_with fail
  refine CN.out.mono ?_
  rintro e w1 ⟨p, X, rfl, hp0, -, -⟩
  have hp1 : Ex (Sp es w p 0 []) w1 := ⟨X, hp0⟩
  clear hp0
  have C1 : Hid (Calls Tryd.prog 10 #[.pointer (some ⟨p, 0, none⟩), .int .i64 1, .bool false] w1 fun e w' => e = .returned .nilIface ∧ Ex (Sp es w p 1 [(1, ⟨0, []⟩)]) w') := (sp_add (by decide) 1 bw1 false).ex hp1
  clear hp1 CN
  go_wp2_with fail
  refine C1.out.mono ?_
  rintro e w2 ⟨rfl, hp2⟩
  have C2 : Hid (Calls Tryd.prog 14 #[.pointer (some ⟨p, 0, none⟩), .int .i64 1] w2 fun e w' => e = .returned .nilIface ∧ Ex (Sp es w p 2 [(1, ⟨1, []⟩)]) w') := (sp_top (by decide) 1 bw1).ex hp2
  clear hp2 C1
  go_wp2_with fail
  refine C2.out.mono ?_
  rintro e w3 ⟨rfl, hp3⟩
  have C3 : Hid (Calls Tryd.prog 22 #[.pointer (some ⟨p, 0, none⟩), .int .i64 1, .bool true, .bool true] w3 fun e w' => e = .returned (.tuple #[.int .i64 0, (.iface 88 (.pointer (some (es.getD 11 ⟨0, 0, none⟩))))]) ∧ Ex (Sp es w p 3 [(1, ⟨1, []⟩)]) w') := (sp_com (by decide) 1 bw1 true true).ex hp3
  clear hp3 C2
  go_wp2_with fail
  refine C3.out.mono ?_
  rintro e w4 ⟨rfl, hp4⟩
  have C4 : Hid (Calls Tryd.prog 28 #[.pointer (some ⟨p, 0, none⟩), .int .i64 1] w4 fun e w' => e = .returned (.bool false) ∧ Ex (Sp es w p 3 [(1, ⟨1, []⟩)]) w') := hp4.mapd 1 bw1
  clear hp4 C3
  go_wp2_with fail
  refine C4.out.mono ?_
  rintro e w5 ⟨rfl, hp5⟩
  have C5 : Hid (Calls Tryd.prog 28 #[.pointer (some ⟨p, 0, none⟩), .int .i64 1] w5 fun e w' => e = .returned (.bool false) ∧ Ex (Sp es w p 3 [(1, ⟨1, []⟩)]) w') := hp5.mapd 1 bw1
  clear hp5 C4
  go_wp2_with fail
  refine C5.out.mono ?_
  rintro e w6 ⟨rfl, hp6⟩
  have C6 : Hid (Calls Tryd.prog 28 #[.pointer (some ⟨p, 0, none⟩), .int .i64 1] w6 fun e w' => e = .returned (.bool false) ∧ Ex (Sp es w p 3 [(1, ⟨1, []⟩)]) w') := hp6.mapd 1 bw1
  clear hp6 C5
  go_wp2_with fail
  refine C6.out.mono ?_
  rintro e w7 ⟨rfl, hp7⟩
  have C7 : Hid (Calls Tryd.prog 12 #[.pointer (some ⟨p, 0, none⟩), .int .i64 1] w7 fun e w' => e = .returned (.iface 88 (.pointer (some (es.getD 11 ⟨0, 0, none⟩)))) ∧ Ex (Sp es w p 4 [(1, ⟨1, []⟩)]) w') := (sp_drp (by decide) 1 bw1).ex hp7
  clear hp7 C6
  go_wp2_with fail
  refine C7.out.mono ?_
  rintro e w8 ⟨rfl, hp8⟩
  have C8 : Hid (Calls Tryd.prog 9 #[(.iface 88 (.pointer (some (es.getD 11 ⟨0, 0, none⟩))))] w8 fun e w' => e = .returned (.int .i64 12) ∧ Ex (Sp es w p 4 [(1, ⟨1, []⟩)]) w') := hp8.kind 12 (by decide)
  clear hp8 C7
  go_wp2_with fail
  refine C8.out.mono ?_
  rintro e w9 ⟨rfl, hp9⟩
  have C9 := hid hp9.awake
  clear hp9 C8
  go_wp2_with fail
  refine C9.out.mono ?_
  rintro e w10 ⟨rfl, hb⟩
  have HB := hid hb
  clear hb C9
  go_wp2
  go_ret
  exact ⟨rfl, HB.out⟩

set_option maxRecDepth 100000 in
set_option maxHeartbeats 2000000 in
theorem c2 (again : Bool) (w : World) (es : List Addr) (hE : Errs w gerrs es) : Calls Tryd.prog 5 #[.bool true, .bool false, .bool false, .bool again] w fun e w' => e = .returned (.bool true) ∧ Below w.heap.size w w' := by
  have CN := hid (sp_new w w (Below.refl _ _) hE)
  clear hE
  go_enter Tryd.func5, Tryd.ntmps5
  go_wp2_with fail
  refine CN.out.mono ?_
  rintro e w1 ⟨p, X, rfl, hp0, -, -⟩
  have hp1 : Ex (Sp es w p 0 []) w1 := ⟨X, hp0⟩
  clear hp0
  have C1 : Hid (Calls Tryd.prog 10 #[.pointer (some ⟨p, 0, none⟩), .int .i64 1, .bool false] w1 fun e w' => e = .returned .nilIface ∧ Ex (Sp es w p 1 [(1, ⟨0, []⟩)]) w') := (sp_add (by decide) 1 bw1 false).ex hp1
  clear hp1 CN
  go_wp2_with fail
  refine C1.out.mono ?_
  rintro e w2 ⟨rfl, hp2⟩
  have C2 : Hid (Calls Tryd.prog 14 #[.pointer (some ⟨p, 0, none⟩), .int .i64 1] w2 fun e w' => e = .returned .nilIface ∧ Ex (Sp es w p 2 [(1, ⟨1, []⟩)]) w') := (sp_top (by decide) 1 bw1).ex hp2
  clear hp2 C1
  go_wp2_with fail
  refine C2.out.mono ?_
  rintro e w3 ⟨rfl, hp3⟩
  have C3 : Hid (Calls Tryd.prog 22 #[.pointer (some ⟨p, 0, none⟩), .int .i64 1, .bool false, .bool false] w3 fun e w' => e = .returned (.tuple #[.int .i64 1, .nilIface]) ∧ Ex (Sp es w p 3 [(1, ⟨2, []⟩)]) w') := (sp_com (by decide) 1 bw1 false false).ex hp3
  clear hp3 C2
  go_wp2_with fail
  refine C3.out.mono ?_
  rintro e w4 ⟨rfl, hp4⟩
  have C4 : Hid (Calls Tryd.prog 18 #[.pointer (some ⟨p, 0, none⟩), .int .i64 1, .int .i64 3] w4 fun e w' => e = .returned .nilIface ∧ Ex (Sp es w p 4 [(1, ⟨2, [3]⟩)]) w') := (sp_snd (by decide) 1 bw1 3).ex hp4
  clear hp4 C3
  go_wp2_with fail
  refine C4.out.mono ?_
  rintro e w5 ⟨rfl, hp5⟩
  have C5 : Hid (Calls Tryd.prog 22 #[.pointer (some ⟨p, 0, none⟩), .int .i64 1, .bool false, .bool false] w5 fun e w' => e = .returned (.tuple #[.int .i64 0, .nilIface]) ∧ Ex (Sp es w p 5 [(1, ⟨2, [3]⟩)]) w') := (sp_com (by decide) 1 bw1 false false).ex hp5
  clear hp5 C4
  go_wp2_with fail
  refine C5.out.mono ?_
  rintro e w6 ⟨rfl, hp6⟩
  have C6 : Hid (Calls Tryd.prog 28 #[.pointer (some ⟨p, 0, none⟩), .int .i64 1] w6 fun e w' => e = .returned (.bool false) ∧ Ex (Sp es w p 5 [(1, ⟨2, [3]⟩)]) w') := hp6.mapd 1 bw1
  clear hp6 C5
  go_wp2_with fail
  refine C6.out.mono ?_
  rintro e w7 ⟨rfl, hp7⟩
  have C7 : Hid (Calls Tryd.prog 28 #[.pointer (some ⟨p, 0, none⟩), .int .i64 1] w7 fun e w' => e = .returned (.bool false) ∧ Ex (Sp es w p 5 [(1, ⟨2, [3]⟩)]) w') := hp7.mapd 1 bw1
  clear hp7 C6
  go_wp2_with fail
  refine C7.out.mono ?_
  rintro e w8 ⟨rfl, hp8⟩
  have C8 : Hid (Calls Tryd.prog 28 #[.pointer (some ⟨p, 0, none⟩), .int .i64 1] w8 fun e w' => e = .returned (.bool false) ∧ Ex (Sp es w p 5 [(1, ⟨2, [3]⟩)]) w') := hp8.mapd 1 bw1
  clear hp8 C7
  go_wp2_with fail
  refine C8.out.mono ?_
  rintro e w9 ⟨rfl, hp9⟩
  have C9 : Hid (Calls Tryd.prog 12 #[.pointer (some ⟨p, 0, none⟩), .int .i64 1] w9 fun e w' => e = .returned (.iface 88 (.pointer (some (es.getD 11 ⟨0, 0, none⟩)))) ∧ Ex (Sp es w p 6 [(1, ⟨2, [3]⟩)]) w') := (sp_drp (by decide) 1 bw1).ex hp9
  clear hp9 C8
  go_wp2_with fail
  refine C9.out.mono ?_
  rintro e w10 ⟨rfl, hp10⟩
  have C10 : Hid (Calls Tryd.prog 9 #[(.iface 88 (.pointer (some (es.getD 11 ⟨0, 0, none⟩))))] w10 fun e w' => e = .returned (.int .i64 12) ∧ Ex (Sp es w p 6 [(1, ⟨2, [3]⟩)]) w') := hp10.kind 12 (by decide)
  clear hp10 C9
  go_wp2_with fail
  refine C10.out.mono ?_
  rintro e w11 ⟨rfl, hp11⟩
  have C11 := hid hp11.awake
  clear hp11 C10
  go_wp2_with fail
  refine C11.out.mono ?_
  rintro e w12 ⟨rfl, hb⟩
  have HB := hid hb
  clear hb C11
  go_wp2
  go_ret
  exact ⟨rfl, HB.out⟩

set_option maxRecDepth 100000 in
set_option maxHeartbeats 2000000 in
theorem c3 (again : Bool) (w : World) (es : List Addr) (hE : Errs w gerrs es) : Calls Tryd.prog 5 #[.bool true, .bool false, .bool true, .bool again] w fun e w' => e = .returned (.bool true) ∧ Below w.heap.size w w' := by
  have CN := hid (sp_new w w (Below.refl _ _) hE)
  clear hE
  go_enter Tryd.func5, Tryd.ntmps5
  go_wp2_with fail
  refine CN.out.mono ?_
  rintro e w1 ⟨p, X, rfl, hp0, -, -⟩
  have hp1 : Ex (Sp es w p 0 []) w1 := ⟨X, hp0⟩
  clear hp0
  have C1 : Hid (Calls Tryd.prog 10 #[.pointer (some ⟨p, 0, none⟩), .int .i64 1, .bool false] w1 fun e w' => e = .returned .nilIface ∧ Ex (Sp es w p 1 [(1, ⟨0, []⟩)]) w') := (sp_add (by decide) 1 bw1 false).ex hp1
  clear hp1 CN
  go_wp2_with fail
  refine C1.out.mono ?_
  rintro e w2 ⟨rfl, hp2⟩
  have C2 : Hid (Calls Tryd.prog 14 #[.pointer (some ⟨p, 0, none⟩), .int .i64 1] w2 fun e w' => e = .returned .nilIface ∧ Ex (Sp es w p 2 [(1, ⟨1, []⟩)]) w') := (sp_top (by decide) 1 bw1).ex hp2
  clear hp2 C1
  go_wp2_with fail
  refine C2.out.mono ?_
  rintro e w3 ⟨rfl, hp3⟩
  have C3 : Hid (Calls Tryd.prog 22 #[.pointer (some ⟨p, 0, none⟩), .int .i64 1, .bool false, .bool false] w3 fun e w' => e = .returned (.tuple #[.int .i64 1, .nilIface]) ∧ Ex (Sp es w p 3 [(1, ⟨2, []⟩)]) w') := (sp_com (by decide) 1 bw1 false false).ex hp3
  clear hp3 C2
  go_wp2_with fail
  refine C3.out.mono ?_
  rintro e w4 ⟨rfl, hp4⟩
  have C4 : Hid (Calls Tryd.prog 18 #[.pointer (some ⟨p, 0, none⟩), .int .i64 1, .int .i64 3] w4 fun e w' => e = .returned .nilIface ∧ Ex (Sp es w p 4 [(1, ⟨2, [3]⟩)]) w') := (sp_snd (by decide) 1 bw1 3).ex hp4
  clear hp4 C3
  go_wp2_with fail
  refine C4.out.mono ?_
  rintro e w5 ⟨rfl, hp5⟩
  have C5 : Hid (Calls Tryd.prog 22 #[.pointer (some ⟨p, 0, none⟩), .int .i64 1, .bool true, .bool true] w5 fun e w' => e = .returned (.tuple #[.int .i64 0, (.iface 88 (.pointer (some (es.getD 11 ⟨0, 0, none⟩))))]) ∧ Ex (Sp es w p 5 [(1, ⟨2, [3]⟩)]) w') := (sp_com (by decide) 1 bw1 true true).ex hp5
  clear hp5 C4
  go_wp2_with fail
  refine C5.out.mono ?_
  rintro e w6 ⟨rfl, hp6⟩
  have C6 : Hid (Calls Tryd.prog 28 #[.pointer (some ⟨p, 0, none⟩), .int .i64 1] w6 fun e w' => e = .returned (.bool false) ∧ Ex (Sp es w p 5 [(1, ⟨2, [3]⟩)]) w') := hp6.mapd 1 bw1
  clear hp6 C5
  go_wp2_with fail
  refine C6.out.mono ?_
  rintro e w7 ⟨rfl, hp7⟩
  have C7 : Hid (Calls Tryd.prog 28 #[.pointer (some ⟨p, 0, none⟩), .int .i64 1] w7 fun e w' => e = .returned (.bool false) ∧ Ex (Sp es w p 5 [(1, ⟨2, [3]⟩)]) w') := hp7.mapd 1 bw1
  clear hp7 C6
  go_wp2_with fail
  refine C7.out.mono ?_
  rintro e w8 ⟨rfl, hp8⟩
  have C8 : Hid (Calls Tryd.prog 28 #[.pointer (some ⟨p, 0, none⟩), .int .i64 1] w8 fun e w' => e = .returned (.bool false) ∧ Ex (Sp es w p 5 [(1, ⟨2, [3]⟩)]) w') := hp8.mapd 1 bw1
  clear hp8 C7
  go_wp2_with fail
  refine C8.out.mono ?_
  rintro e w9 ⟨rfl, hp9⟩
  have C9 : Hid (Calls Tryd.prog 12 #[.pointer (some ⟨p, 0, none⟩), .int .i64 1] w9 fun e w' => e = .returned (.iface 88 (.pointer (some (es.getD 11 ⟨0, 0, none⟩)))) ∧ Ex (Sp es w p 6 [(1, ⟨2, [3]⟩)]) w') := (sp_drp (by decide) 1 bw1).ex hp9
  clear hp9 C8
  go_wp2_with fail
  refine C9.out.mono ?_
  rintro e w10 ⟨rfl, hp10⟩
  have C10 : Hid (Calls Tryd.prog 9 #[(.iface 88 (.pointer (some (es.getD 11 ⟨0, 0, none⟩))))] w10 fun e w' => e = .returned (.int .i64 12) ∧ Ex (Sp es w p 6 [(1, ⟨2, [3]⟩)]) w') := hp10.kind 12 (by decide)
  clear hp10 C9
  go_wp2_with fail
  refine C10.out.mono ?_
  rintro e w11 ⟨rfl, hp11⟩
  have C11 := hid hp11.awake
  clear hp11 C10
  go_wp2_with fail
  refine C11.out.mono ?_
  rintro e w12 ⟨rfl, hb⟩
  have HB := hid hb
  clear hb C11
  go_wp2
  go_ret
  exact ⟨rfl, HB.out⟩

set_option maxRecDepth 100000 in
set_option maxHeartbeats 2000000 in
theorem c4 (again : Bool) (w : World) (es : List Addr) (hE : Errs w gerrs es) : Calls Tryd.prog 5 #[.bool true, .bool true, .bool false, .bool again] w fun e w' => e = .returned (.bool true) ∧ Below w.heap.size w w' := by
  have CN := hid (sp_new w w (Below.refl _ _) hE)
  clear hE
  go_enter Tryd.func5, Tryd.ntmps5
  go_wp2_with fail
  refine CN.out.mono ?_
  rintro e w1 ⟨p, X, rfl, hp0, -, -⟩
  have hp1 : Ex (Sp es w p 0 []) w1 := ⟨X, hp0⟩
  clear hp0
  have C1 : Hid (Calls Tryd.prog 10 #[.pointer (some ⟨p, 0, none⟩), .int .i64 1, .bool false] w1 fun e w' => e = .returned .nilIface ∧ Ex (Sp es w p 1 [(1, ⟨0, []⟩)]) w') := (sp_add (by decide) 1 bw1 false).ex hp1
  clear hp1 CN
  go_wp2_with fail
  refine C1.out.mono ?_
  rintro e w2 ⟨rfl, hp2⟩
  have C2 : Hid (Calls Tryd.prog 14 #[.pointer (some ⟨p, 0, none⟩), .int .i64 1] w2 fun e w' => e = .returned .nilIface ∧ Ex (Sp es w p 2 [(1, ⟨1, []⟩)]) w') := (sp_top (by decide) 1 bw1).ex hp2
  clear hp2 C1
  go_wp2_with fail
  refine C2.out.mono ?_
  rintro e w3 ⟨rfl, hp3⟩
  have C3 : Hid (Calls Tryd.prog 22 #[.pointer (some ⟨p, 0, none⟩), .int .i64 1, .bool false, .bool false] w3 fun e w' => e = .returned (.tuple #[.int .i64 1, .nilIface]) ∧ Ex (Sp es w p 3 [(1, ⟨2, []⟩)]) w') := (sp_com (by decide) 1 bw1 false false).ex hp3
  clear hp3 C2
  go_wp2_with fail
  refine C3.out.mono ?_
  rintro e w4 ⟨rfl, hp4⟩
  have C4 : Hid (Calls Tryd.prog 18 #[.pointer (some ⟨p, 0, none⟩), .int .i64 1, .int .i64 3] w4 fun e w' => e = .returned .nilIface ∧ Ex (Sp es w p 4 [(1, ⟨2, [3]⟩)]) w') := (sp_snd (by decide) 1 bw1 3).ex hp4
  clear hp4 C3
  go_wp2_with fail
  refine C4.out.mono ?_
  rintro e w5 ⟨rfl, hp5⟩
  have C5 : Hid (Calls Tryd.prog 20 #[.pointer (some ⟨p, 0, none⟩), .int .i64 1, .int .i64 3] w5 fun e w' => e = .returned .nilIface ∧ Ex (Sp es w p 5 [(1, ⟨3, []⟩)]) w') := (sp_ack (by decide) 1 bw1 3).ex hp5
  clear hp5 C4
  go_wp2_with fail
  refine C5.out.mono ?_
  rintro e w6 ⟨rfl, hp6⟩
  have C6 : Hid (Calls Tryd.prog 22 #[.pointer (some ⟨p, 0, none⟩), .int .i64 1, .bool false, .bool false] w6 fun e w' => e = .returned (.tuple #[.int .i64 0, .nilIface]) ∧ Ex (Sp es w p 6 [(1, ⟨3, []⟩)]) w') := (sp_com (by decide) 1 bw1 false false).ex hp6
  clear hp6 C5
  go_wp2_with fail
  refine C6.out.mono ?_
  rintro e w7 ⟨rfl, hp7⟩
  have C7 : Hid (Calls Tryd.prog 28 #[.pointer (some ⟨p, 0, none⟩), .int .i64 1] w7 fun e w' => e = .returned (.bool false) ∧ Ex (Sp es w p 6 [(1, ⟨3, []⟩)]) w') := hp7.mapd 1 bw1
  clear hp7 C6
  go_wp2_with fail
  refine C7.out.mono ?_
  rintro e w8 ⟨rfl, hp8⟩
  have C8 : Hid (Calls Tryd.prog 28 #[.pointer (some ⟨p, 0, none⟩), .int .i64 1] w8 fun e w' => e = .returned (.bool false) ∧ Ex (Sp es w p 6 [(1, ⟨3, []⟩)]) w') := hp8.mapd 1 bw1
  clear hp8 C7
  go_wp2_with fail
  refine C8.out.mono ?_
  rintro e w9 ⟨rfl, hp9⟩
  have C9 : Hid (Calls Tryd.prog 28 #[.pointer (some ⟨p, 0, none⟩), .int .i64 1] w9 fun e w' => e = .returned (.bool false) ∧ Ex (Sp es w p 6 [(1, ⟨3, []⟩)]) w') := hp9.mapd 1 bw1
  clear hp9 C8
  go_wp2_with fail
  refine C9.out.mono ?_
  rintro e w10 ⟨rfl, hp10⟩
  have C10 : Hid (Calls Tryd.prog 12 #[.pointer (some ⟨p, 0, none⟩), .int .i64 1] w10 fun e w' => e = .returned (.iface 88 (.pointer (some (es.getD 11 ⟨0, 0, none⟩)))) ∧ Ex (Sp es w p 7 [(1, ⟨3, []⟩)]) w') := (sp_drp (by decide) 1 bw1).ex hp10
  clear hp10 C9
  go_wp2_with fail
  refine C10.out.mono ?_
  rintro e w11 ⟨rfl, hp11⟩
  have C11 : Hid (Calls Tryd.prog 9 #[(.iface 88 (.pointer (some (es.getD 11 ⟨0, 0, none⟩))))] w11 fun e w' => e = .returned (.int .i64 12) ∧ Ex (Sp es w p 7 [(1, ⟨3, []⟩)]) w') := hp11.kind 12 (by decide)
  clear hp11 C10
  go_wp2_with fail
  refine C11.out.mono ?_
  rintro e w12 ⟨rfl, hp12⟩
  have C12 := hid hp12.awake
  clear hp12 C11
  go_wp2_with fail
  refine C12.out.mono ?_
  rintro e w13 ⟨rfl, hb⟩
  have HB := hid hb
  clear hb C12
  go_wp2
  go_ret
  exact ⟨rfl, HB.out⟩

set_option maxRecDepth 100000 in
set_option maxHeartbeats 2000000 in
theorem c5 (w : World) (es : List Addr) (hE : Errs w gerrs es) : Calls Tryd.prog 5 #[.bool true, .bool true, .bool true, .bool true] w fun e w' => e = .returned (.bool true) ∧ Below w.heap.size w w' := by
  have CN := hid (sp_new w w (Below.refl _ _) hE)
  clear hE
  go_enter Tryd.func5, Tryd.ntmps5
  go_wp2_with fail
  refine CN.out.mono ?_
  rintro e w1 ⟨p, X, rfl, hp0, -, -⟩
  have hp1 : Ex (Sp es w p 0 []) w1 := ⟨X, hp0⟩
  clear hp0
  have C1 : Hid (Calls Tryd.prog 10 #[.pointer (some ⟨p, 0, none⟩), .int .i64 1, .bool false] w1 fun e w' => e = .returned .nilIface ∧ Ex (Sp es w p 1 [(1, ⟨0, []⟩)]) w') := (sp_add (by decide) 1 bw1 false).ex hp1
  clear hp1 CN
  go_wp2_with fail
  refine C1.out.mono ?_
  rintro e w2 ⟨rfl, hp2⟩
  have C2 : Hid (Calls Tryd.prog 14 #[.pointer (some ⟨p, 0, none⟩), .int .i64 1] w2 fun e w' => e = .returned .nilIface ∧ Ex (Sp es w p 2 [(1, ⟨1, []⟩)]) w') := (sp_top (by decide) 1 bw1).ex hp2
  clear hp2 C1
  go_wp2_with fail
  refine C2.out.mono ?_
  rintro e w3 ⟨rfl, hp3⟩
  have C3 : Hid (Calls Tryd.prog 22 #[.pointer (some ⟨p, 0, none⟩), .int .i64 1, .bool false, .bool false] w3 fun e w' => e = .returned (.tuple #[.int .i64 1, .nilIface]) ∧ Ex (Sp es w p 3 [(1, ⟨2, []⟩)]) w') := (sp_com (by decide) 1 bw1 false false).ex hp3
  clear hp3 C2
  go_wp2_with fail
  refine C3.out.mono ?_
  rintro e w4 ⟨rfl, hp4⟩
  have C4 : Hid (Calls Tryd.prog 18 #[.pointer (some ⟨p, 0, none⟩), .int .i64 1, .int .i64 3] w4 fun e w' => e = .returned .nilIface ∧ Ex (Sp es w p 4 [(1, ⟨2, [3]⟩)]) w') := (sp_snd (by decide) 1 bw1 3).ex hp4
  clear hp4 C3
  go_wp2_with fail
  refine C4.out.mono ?_
  rintro e w5 ⟨rfl, hp5⟩
  have C5 : Hid (Calls Tryd.prog 20 #[.pointer (some ⟨p, 0, none⟩), .int .i64 1, .int .i64 3] w5 fun e w' => e = .returned .nilIface ∧ Ex (Sp es w p 5 [(1, ⟨3, []⟩)]) w') := (sp_ack (by decide) 1 bw1 3).ex hp5
  clear hp5 C4
  go_wp2_with fail
  refine C5.out.mono ?_
  rintro e w6 ⟨rfl, hp6⟩
  have C6 : Hid (Calls Tryd.prog 22 #[.pointer (some ⟨p, 0, none⟩), .int .i64 1, .bool true, .bool true] w6 fun e w' => e = .returned (.tuple #[.int .i64 2, .nilIface]) ∧ Ex (Sp es w p 6 [(1, ⟨4, []⟩)]) w') := (sp_com (by decide) 1 bw1 true true).ex hp6
  clear hp6 C5
  go_wp2_with fail
  refine C6.out.mono ?_
  rintro e w7 ⟨rfl, hp7⟩
  have C7 : Hid (Calls Tryd.prog 28 #[.pointer (some ⟨p, 0, none⟩), .int .i64 1] w7 fun e w' => e = .returned (.bool true) ∧ Ex (Sp es w p 6 [(1, ⟨4, []⟩)]) w') := hp7.mapd 1 bw1
  clear hp7 C6
  go_wp2_with fail
  refine C7.out.mono ?_
  rintro e w8 ⟨rfl, hp8⟩
  have C8 : Hid (Calls Tryd.prog 28 #[.pointer (some ⟨p, 0, none⟩), .int .i64 1] w8 fun e w' => e = .returned (.bool true) ∧ Ex (Sp es w p 6 [(1, ⟨4, []⟩)]) w') := hp8.mapd 1 bw1
  clear hp8 C7
  go_wp2_with fail
  refine C8.out.mono ?_
  rintro e w9 ⟨rfl, hp9⟩
  have C9 : Hid (Calls Tryd.prog 28 #[.pointer (some ⟨p, 0, none⟩), .int .i64 1] w9 fun e w' => e = .returned (.bool true) ∧ Ex (Sp es w p 6 [(1, ⟨4, []⟩)]) w') := hp9.mapd 1 bw1
  clear hp9 C8
  go_wp2_with fail
  refine C9.out.mono ?_
  rintro e w10 ⟨rfl, hp10⟩
  have C10 : Hid (Calls Tryd.prog 22 #[.pointer (some ⟨p, 0, none⟩), .int .i64 1, .bool true, .bool true] w10 fun e w' => e = .returned (.tuple #[.int .i64 0, .nilIface]) ∧ Ex (Sp es w p 7 [(1, ⟨4, []⟩)]) w') := (sp_com (by decide) 1 bw1 true true).ex hp10
  clear hp10 C9
  go_wp2_with fail
  refine C10.out.mono ?_
  rintro e w11 ⟨rfl, hp11⟩
  have C11 : Hid (Calls Tryd.prog 28 #[.pointer (some ⟨p, 0, none⟩), .int .i64 1] w11 fun e w' => e = .returned (.bool true) ∧ Ex (Sp es w p 7 [(1, ⟨4, []⟩)]) w') := hp11.mapd 1 bw1
  clear hp11 C10
  go_wp2_with fail
  refine C11.out.mono ?_
  rintro e w12 ⟨rfl, hp12⟩
  have C12 := hid hp12.awake
  clear hp12 C11
  go_wp2_with fail
  refine C12.out.mono ?_
  rintro e w13 ⟨rfl, hb⟩
  have HB := hid hb
  clear hb C12
  go_wp2
  go_ret
  exact ⟨rfl, HB.out⟩

set_option maxRecDepth 100000 in
set_option maxHeartbeats 2000000 in
theorem c6 (w : World) (es : List Addr) (hE : Errs w gerrs es) : Calls Tryd.prog 5 #[.bool true, .bool true, .bool true, .bool false] w fun e w' => e = .returned (.bool true) ∧ Below w.heap.size w w' := by
  have CN := hid (sp_new w w (Below.refl _ _) hE)
  clear hE
  go_enter Tryd.func5, Tryd.ntmps5
  go_wp2_with fail
  refine CN.out.mono ?_
  rintro e w1 ⟨p, X, rfl, hp0, -, -⟩
  have hp1 : Ex (Sp es w p 0 []) w1 := ⟨X, hp0⟩
  clear hp0
  have C1 : Hid (Calls Tryd.prog 10 #[.pointer (some ⟨p, 0, none⟩), .int .i64 1, .bool false] w1 fun e w' => e = .returned .nilIface ∧ Ex (Sp es w p 1 [(1, ⟨0, []⟩)]) w') := (sp_add (by decide) 1 bw1 false).ex hp1
  clear hp1 CN
  go_wp2_with fail
  refine C1.out.mono ?_
  rintro e w2 ⟨rfl, hp2⟩
  have C2 : Hid (Calls Tryd.prog 14 #[.pointer (some ⟨p, 0, none⟩), .int .i64 1] w2 fun e w' => e = .returned .nilIface ∧ Ex (Sp es w p 2 [(1, ⟨1, []⟩)]) w') := (sp_top (by decide) 1 bw1).ex hp2
  clear hp2 C1
  go_wp2_with fail
  refine C2.out.mono ?_
  rintro e w3 ⟨rfl, hp3⟩
  have C3 : Hid (Calls Tryd.prog 22 #[.pointer (some ⟨p, 0, none⟩), .int .i64 1, .bool false, .bool false] w3 fun e w' => e = .returned (.tuple #[.int .i64 1, .nilIface]) ∧ Ex (Sp es w p 3 [(1, ⟨2, []⟩)]) w') := (sp_com (by decide) 1 bw1 false false).ex hp3
  clear hp3 C2
  go_wp2_with fail
  refine C3.out.mono ?_
  rintro e w4 ⟨rfl, hp4⟩
  have C4 : Hid (Calls Tryd.prog 18 #[.pointer (some ⟨p, 0, none⟩), .int .i64 1, .int .i64 3] w4 fun e w' => e = .returned .nilIface ∧ Ex (Sp es w p 4 [(1, ⟨2, [3]⟩)]) w') := (sp_snd (by decide) 1 bw1 3).ex hp4
  clear hp4 C3
  go_wp2_with fail
  refine C4.out.mono ?_
  rintro e w5 ⟨rfl, hp5⟩
  have C5 : Hid (Calls Tryd.prog 20 #[.pointer (some ⟨p, 0, none⟩), .int .i64 1, .int .i64 3] w5 fun e w' => e = .returned .nilIface ∧ Ex (Sp es w p 5 [(1, ⟨3, []⟩)]) w') := (sp_ack (by decide) 1 bw1 3).ex hp5
  clear hp5 C4
  go_wp2_with fail
  refine C5.out.mono ?_
  rintro e w6 ⟨rfl, hp6⟩
  have C6 : Hid (Calls Tryd.prog 22 #[.pointer (some ⟨p, 0, none⟩), .int .i64 1, .bool true, .bool true] w6 fun e w' => e = .returned (.tuple #[.int .i64 2, .nilIface]) ∧ Ex (Sp es w p 6 [(1, ⟨4, []⟩)]) w') := (sp_com (by decide) 1 bw1 true true).ex hp6
  clear hp6 C5
  go_wp2_with fail
  refine C6.out.mono ?_
  rintro e w7 ⟨rfl, hp7⟩
  have C7 : Hid (Calls Tryd.prog 28 #[.pointer (some ⟨p, 0, none⟩), .int .i64 1] w7 fun e w' => e = .returned (.bool true) ∧ Ex (Sp es w p 6 [(1, ⟨4, []⟩)]) w') := hp7.mapd 1 bw1
  clear hp7 C6
  go_wp2_with fail
  refine C7.out.mono ?_
  rintro e w8 ⟨rfl, hp8⟩
  have C8 : Hid (Calls Tryd.prog 28 #[.pointer (some ⟨p, 0, none⟩), .int .i64 1] w8 fun e w' => e = .returned (.bool true) ∧ Ex (Sp es w p 6 [(1, ⟨4, []⟩)]) w') := hp8.mapd 1 bw1
  clear hp8 C7
  go_wp2_with fail
  refine C8.out.mono ?_
  rintro e w9 ⟨rfl, hp9⟩
  have C9 : Hid (Calls Tryd.prog 28 #[.pointer (some ⟨p, 0, none⟩), .int .i64 1] w9 fun e w' => e = .returned (.bool true) ∧ Ex (Sp es w p 6 [(1, ⟨4, []⟩)]) w') := hp9.mapd 1 bw1
  clear hp9 C8
  go_wp2_with fail
  refine C9.out.mono ?_
  rintro e w10 ⟨rfl, hp10⟩
  have C10 : Hid (Calls Tryd.prog 22 #[.pointer (some ⟨p, 0, none⟩), .int .i64 1, .bool true, .bool false] w10 fun e w' => e = .returned (.tuple #[.int .i64 3, .nilIface]) ∧ Ex (Sp es w p 7 [(1, ⟨1, []⟩)]) w') := (sp_com (by decide) 1 bw1 true false).ex hp10
  clear hp10 C9
  go_wp2_with fail
  refine C10.out.mono ?_
  rintro e w11 ⟨rfl, hp11⟩
  have C11 : Hid (Calls Tryd.prog 22 #[.pointer (some ⟨p, 0, none⟩), .int .i64 1, .bool true, .bool true] w11 fun e w' => e = .returned (.tuple #[.int .i64 0, (.iface 88 (.pointer (some (es.getD 11 ⟨0, 0, none⟩))))]) ∧ Ex (Sp es w p 8 [(1, ⟨1, []⟩)]) w') := (sp_com (by decide) 1 bw1 true true).ex hp11
  clear hp11 C10
  go_wp2_with fail
  refine C11.out.mono ?_
  rintro e w12 ⟨rfl, hp12⟩
  have C12 : Hid (Calls Tryd.prog 22 #[.pointer (some ⟨p, 0, none⟩), .int .i64 1, .bool false, .bool false] w12 fun e w' => e = .returned (.tuple #[.int .i64 1, .nilIface]) ∧ Ex (Sp es w p 9 [(1, ⟨2, []⟩)]) w') := (sp_com (by decide) 1 bw1 false false).ex hp12
  clear hp12 C11
  go_wp2_with fail
  refine C12.out.mono ?_
  rintro e w13 ⟨rfl, hp13⟩
  have C13 : Hid (Calls Tryd.prog 9 #[(.iface 88 (.pointer (some (es.getD 11 ⟨0, 0, none⟩))))] w13 fun e w' => e = .returned (.int .i64 12) ∧ Ex (Sp es w p 9 [(1, ⟨2, []⟩)]) w') := hp13.kind 12 (by decide)
  clear hp13 C12
  go_wp2_with fail
  refine C13.out.mono ?_
  rintro e w14 ⟨rfl, hp14⟩
  have C14 : Hid (Calls Tryd.prog 28 #[.pointer (some ⟨p, 0, none⟩), .int .i64 1] w14 fun e w' => e = .returned (.bool false) ∧ Ex (Sp es w p 9 [(1, ⟨2, []⟩)]) w') := hp14.mapd 1 bw1
  clear hp14 C13
  go_wp2_with fail
  refine C14.out.mono ?_
  rintro e w15 ⟨rfl, hp15⟩
  have C15 : Hid (Calls Tryd.prog 16 #[.pointer (some ⟨p, 0, none⟩), .int .i64 1] w15 fun e w' => e = .returned .nilIface ∧ Ex (Sp es w p 10 [(1, ⟨0, []⟩)]) w') := (sp_unt (by decide) 1 bw1).ex hp15
  clear hp15 C14
  go_wp2_with fail
  refine C15.out.mono ?_
  rintro e w16 ⟨rfl, hp16⟩
  have C16 : Hid (Calls Tryd.prog 12 #[.pointer (some ⟨p, 0, none⟩), .int .i64 1] w16 fun e w' => e = .returned .nilIface ∧ Ex (Sp es w p 11 []) w') := (sp_drp (by decide) 1 bw1).ex hp16
  clear hp16 C15
  go_wp2_with fail
  refine C16.out.mono ?_
  rintro e w17 ⟨rfl, hp17⟩
  have C17 : Hid (Calls Tryd.prog 25 #[.pointer (some ⟨p, 0, none⟩), .int .i64 1] w17 fun e w' => e = .returned (.bool false) ∧ Ex (Sp es w p 11 []) w') := hp17.has 1 bw1
  clear hp17 C16
  go_wp2_with fail
  refine C17.out.mono ?_
  rintro e w18 ⟨rfl, hp18⟩
  have C18 := hid hp18.awake
  clear hp18 C17
  go_wp2_with fail
  refine C18.out.mono ?_
  rintro e w19 ⟨rfl, hb⟩
  have HB := hid hb
  clear hb C18
  go_wp2
  go_ret
  exact ⟨rfl, HB.out⟩

theorem walk (a0 a1 a2 a3 : Bool) (w : World) (hL : laidMetH Tryd.prog Rows.shellMapsRow.laid w) :
    Calls Tryd.prog 5 #[.bool a0, .bool a1, .bool a2, .bool a3] w fun e w' => e = .returned (.bool true) ∧ Below w.heap.size w w' := by
  obtain ⟨es, hE⟩ := errs16 hL
  cases a0
  · cases a2
    · exact c0 a1 a3 w es hE
    · exact c1 a1 a3 w es hE
  · cases a1
    · cases a2
      · exact c2 a3 w es hE
      · exact c3 a3 w es hE
    · cases a2
      · exact c4 a3 w es hE
      · cases a3
        · exact c6 w es hE
        · exact c5 w es hE
end Go.Proofs.YtnlaegleekghmaaDoor.shellMaps
