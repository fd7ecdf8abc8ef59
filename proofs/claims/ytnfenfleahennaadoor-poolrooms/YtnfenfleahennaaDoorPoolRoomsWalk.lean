/- PoolRooms: for any six numbers the call returns true; nothing that was there has turned. -/
import Derived.Test.YtnfenfleahennaaDoorPolR
import Derived.Test.YtnfenfleahennaaDoorLibS
import Derived.Deep.DeepCutAuto
import Derived.LaidMore
namespace Go.Proofs.YtnfenfleahennaaDoor.poolRooms
open Go Go.RowKit

set_option maxRecDepth 100000 in
theorem core (size off wd h st fm : Int) (w : World) (hz : I64 size) (ho : I64 off) (hw : I64 wd) (hh : I64 h) (hs : I64 st) (es : List Addr) (hE : Errs w gerrs es) :
    Calls Tryd.prog 4 #[.int .i64 size, .int .i64 off, .int .i64 wd, .int .i64 h, .int .i64 st, .int .i64 fm] w fun e w' => e = .returned (.bool true) ∧ Below w.heap.size w w' := by
  have HE := hid hE
  have R1 := hid (room_any es size off wd h st fm w hE hz ho hw hh hs)
  have R2 := hid (fun u : World => rroom_any size off wd h st fm u hz ho hw hh hs)
  have HK := hid (kind_erv w es hE _ (rmE_le size off wd h st fm))
  generalize rmE size off wd h st fm = r at *
  clear hE
  go_enter Tryd.func4, Tryd.ntmps4
  go_wp2_with fail
  refine R1.out.mono ?_
  rintro e w1 ⟨rfl, rfl⟩
  go_wp2_with fail
  refine HK.out.mono ?_
  rintro e w2 ⟨rfl, hb⟩
  have HB := hid hb
  have HW := hid (pawake_any w2 es (HE.out.below hb))
  go_wp2_with fail
  refine (R2.out _).mono ?_
  rintro e w3 ⟨rfl, rfl⟩
  have e1 : ((r : Int) == (r : Int)) = true := by simp
  go_wp2_with fail
  refine HW.out.mono ?_
  rintro e w4 ⟨rfl, hb⟩
  go_wp2
  go_ret
  exact ⟨rfl, Below.on HB.out hb⟩

theorem walk (size off wd h st fm : Int) (w : World) (hz : (Lit.int .i64 size).wf = true) (ho : (Lit.int .i64 off).wf = true) (hw : (Lit.int .i64 wd).wf = true) (hh : (Lit.int .i64 h).wf = true) (hs : (Lit.int .i64 st).wf = true) (_ : (Lit.int .i64 fm).wf = true) (hL : laidMetH Tryd.prog Rows.poolRoomsRow.laid w) :
    Calls Tryd.prog 4 #[.int .i64 size, .int .i64 off, .int .i64 wd, .int .i64 h, .int .i64 st, .int .i64 fm] w fun e w' => e = .returned (.bool true) ∧ Below w.heap.size w w' := by
  obtain ⟨es, hE⟩ := errs16 hL
  exact core size off wd h st fm w (wf64 hz) (wf64 ho) (wf64 hw) (wf64 hh) (wf64 hs) es hE
end Go.Proofs.YtnfenfleahennaaDoor.poolRooms
