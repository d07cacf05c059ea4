/- The listed variables of this seat's rows: a world that lays them, and what they hold. -/
import Derived.Test.YtalgmnnimfenpaaDoorRows
import Derived.Test.YtalgmnnimfenpaaDoorCards
import Derived.Test.YtalgmnnimfenpaaDoorTie
import Derived.WalkKit
import Derived.ProofKit
import Derived.Lay
import Derived.LaidMore
import Derived.Stop.LaidErr
import Derived.Stop.Joined
import Derived.Lib.LaidTab
import Derived.Test.YtalgmnnimfenpaaDoorPthT
namespace Go.Proofs.YtalgmnnimfenpaaDoor
open Go.ChangeShapes Go.WideShapes Go.ChangeAt Go.RowKit
set_option linter.unusedVariables false
set_option maxRecDepth 100000

abbrev laidL : List (String × DataW Unit) := Rows.pathTellsRow.laid
theorem laid_shaped (os : Os) : World.Shaped Tryd.prog (World.laidAll Tryd.prog os laidL) := World.shaped_of_ZipB (by kernel_rfl) (by kernel_rfl)
theorem laid_plain : (laidL.all fun x => x.2.handleName?.isNone) = true := by kernel_rfl
theorem laid_met (os : Os) (args : Array Value) : laidMetH Tryd.prog laidL ((World.laidAll Tryd.prog os laidL).forCall (fun _ _ => 0) ⟨#[], args, []⟩).memory := by
  rw [MakeChecks.laidMetH_plain _ _ _ laid_plain]; exact laidMet_laidAll _ (by kernel_rfl) (by kernel_rfl)
theorem tab7_of_laid_data : (Rows.laid_ductus_path_takes : DataW Unit) = Lib.tabData .i64 [-1, 1, 1, 2, 3, 0] := by kernel_rfl
theorem tab7_of_laid {W : World} (h : laidMetH Tryd.prog laidL W) : Tab7 W := by
  rw [MakeChecks.laidMetH_plain _ _ _ laid_plain] at h
  have h2 := h
  exact Lib.tabIs_of_head (g := 0) (t := 70) (e := 3) (n := 6) (zs := [-1, 1, 1, 2, 3, 0]) (by kernel_rfl) (by kernel_rfl) Tryd.underlying70 Tryd.underlying3 (by kernel_rfl) (by kernel_rfl) (by rw [← tab7_of_laid_data]; exact h2)
end Go.Proofs.YtalgmnnimfenpaaDoor
