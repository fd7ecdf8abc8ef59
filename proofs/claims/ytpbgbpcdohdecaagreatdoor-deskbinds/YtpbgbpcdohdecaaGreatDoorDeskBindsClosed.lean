/- The closed facts of DeskBinds's row, one by one. Written by a program of the verifier's. -/
import Derived.Test.YtpbgbpcdohdecaaGreatDoorRows
import Derived.JoinedCond
import Derived.KernelRfl
namespace Go.Proofs.YtpbgbpcdohdecaaGreatDoor.deskBinds
open Go
set_option maxRecDepth 100000
theorem c0 : Rows.deskBindsRow.wf (OpenSpec.ofChange (OpenSpec.ofChange Rows.deskBindsSpec).bare) = true := by kernel_rfl
theorem c1 : laidOutB Tryz.prog = true := by kernel_rfl
theorem c2 : mapsRowed Tryz.prog = true := by kernel_rfl
theorem c3 : Tryz.f3.params.all (Tryz.prog.readableRec ·) = true := by kernel_rfl
theorem c4 : namedTie Tryz.prog Rows.deskBindsRow.named (OpenSpec.ofChange Rows.deskBindsSpec).bare.vars = true := by kernel_rfl
theorem c5 : (Rows.deskBindsRow.stops == []) = true := by kernel_rfl
theorem c6 : (Tryz.prog.stops == []) = true := by kernel_rfl
theorem c7 : (Rows.deskBindsRow.knobs == []) = true := by kernel_rfl
theorem c8 : (Tryz.prog.stopKnobs == []) = true := by kernel_rfl
theorem c9 : (Rows.deskBindsRow.inPlace == Tryz.prog.inPlace 3) = true := by kernel_rfl
theorem c10 : (Rows.deskBindsRow.unfollowed == Tryz.prog.unfollowed 3) = true := by kernel_rfl
theorem c11 : (Rows.deskBindsRow.recurses == Tryz.prog.recurses 3) = true := by kernel_rfl
theorem c12 : (Rows.deskBindsRow.named == Tryz.prog.varsNamed 3) = true := by kernel_rfl
theorem c13 : (Rows.deskBindsRow.maps == (Tryz.f3.params.toList ++ (OpenSpec.ofChange Rows.deskBindsSpec).bare.plain.varTypes Tryz.prog).any (Tryz.prog.mapsRec ·)) = true := by kernel_rfl
theorem c14 : (Rows.deskBindsRow.ifaces == (Tryz.f3.params.toList ++ (OpenSpec.ofChange Rows.deskBindsSpec).bare.plain.varTypes Tryz.prog).any (Tryz.prog.ifacesRec ·)) = true := by kernel_rfl
theorem c15 : (Rows.deskBindsRow.mapsOut == Tryz.prog.mapsAmong Tryz.f3.resultTypes.toList) = true := by kernel_rfl
theorem c16 : (Rows.deskBindsRow.loops == (Tryz.f3.params.toList ++ (OpenSpec.ofChange Rows.deskBindsSpec).bare.plain.varTypes Tryz.prog).any (Tryz.prog.loopsFrom ·)) = true := by kernel_rfl
theorem c17 : (Rows.deskBindsRow.wideKeys == (Tryz.f3.params.toList ++ (OpenSpec.ofChange Rows.deskBindsSpec).bare.plain.varTypes Tryz.prog ++ Tryz.f3.resultTypes.toList).any (Tryz.prog.wideKeysFrom ·)) = true := by kernel_rfl
theorem c18 : (OpenSpec.ofChange Rows.deskBindsSpec).bare.vars.all (Tryz.prog.varReadable ·) = true := by kernel_rfl
theorem c19 : Tryz.f3.resultTypes.all (fun t => Tryz.prog.readableRec t && decide (t < Tryz.prog.types.size)) = true := by kernel_rfl
theorem c20 : (Rows.deskBindsRow.ifacesOut == Tryz.f3.resultTypes.toList.any (Tryz.prog.ifacesRec ·)) = true := by kernel_rfl
theorem c21 : (Rows.deskBindsRow.loopsOut == Tryz.f3.resultTypes.toList.any (Tryz.prog.loopsFrom ·)) = true := by kernel_rfl
theorem c22 : (Rows.deskBindsRow.plainKeys == Tryz.prog.plainKeys) = true := by kernel_rfl
theorem c23 : Rows.deskBindsRow.shortTexts.isNone = true := by kernel_rfl
theorem c24 : Tryz.prog.stopsHeard = true := by kernel_rfl
theorem c25 : Tryz.prog.mayEnter = true := by kernel_rfl
theorem c26 : (Rows.deskBindsRow.lifted == Tryz.prog.liftsFinal) = true := by kernel_rfl
theorem c27 : (Tryz.prog.make == some Rows.deskBindsRow.make) = true := by kernel_rfl
theorem c28 : (Rows.deskBindsRow.kinds == (if Rows.deskBindsRow.domain.isEmpty then [] else Tryz.f3.params.toList.map fun t => match Tryz.prog.underlying t with | some (.int k) => some k | _ => Option.none)) = true := by kernel_rfl
theorem c29 : (Rows.deskBindsRow.pinned == Rows.deskBindsRow.pinnedBy) = true := by kernel_rfl
theorem c30 : (Rows.deskBindsRow.veiled == (Tryz.f3.params.toList ++ (OpenSpec.ofChange Rows.deskBindsSpec).bare.plain.varTypes Tryz.prog ++ Tryz.f3.resultTypes.toList).any (Tryz.prog.veiledRec ·)) = true := by kernel_rfl
theorem c31 : Rows.deskBindsRow.veiledFits Tryz.prog Tryz.f3.params.toList (Tryz.f3.params.toList ++ (OpenSpec.ofChange Rows.deskBindsSpec).bare.plain.varTypes Tryz.prog ++ Tryz.f3.resultTypes.toList) = true := by kernel_rfl
theorem cN : Tryz.prog.funcNamed "tableau/tableaulaw26.DeskBinds" = some 3 := by kernel_rfl
theorem both {a b : Bool} (h : a = true) (k : b = true) : (a && b) = true := by rw [h, k]; rfl
theorem closed : joinedFacts Tryz.prog 3 Tryz.f3 (OpenSpec.ofChange Rows.deskBindsSpec).bare Rows.deskBindsRow = true := by
  unfold joinedFacts
  exact both (both (both (both (both (both (both (both (both (both (both (both (both (both (both (both (both (both (both (both (both (both (both (both (both (both (both (both (both (both (both (c0) c1) c2) c3) c4) c5) c6) c7) c8) c9) c10) c11) c12) c13) c14) c15) c16) c17) c18) c19) c20) c21) c22) c23) c24) c25) c26) c27) c28) c29) c30) c31
end Go.Proofs.YtpbgbpcdohdecaaGreatDoor.deskBinds
