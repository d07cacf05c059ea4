/- The listed variables of this seat's rows: a world that lays them, and what they hold. -/
import Derived.Test.YtflnchbamlcgaaaDoorRows
import Derived.Test.YtflnchbamlcgaaaDoorCards
import Derived.Test.YtflnchbamlcgaaaDoorTie
import Derived.WalkKit
import Derived.ProofKit
import Derived.Lay
import Derived.LaidMore
import Derived.Stop.LaidErr
import Derived.Stop.Joined
import Derived.Lib.LaidTab
import Derived.Test.YtflnchbamlcgaaaDoorFix
namespace Go.Proofs.YtflnchbamlcgaaaDoor
open Go.ChangeShapes Go.WideShapes Go.ChangeAt Go.RowKit
set_option linter.unusedVariables false
set_option maxRecDepth 100000

abbrev laidL : List (String × DataW Unit) := Rows.fixDividesRow.laid
theorem laid_shaped (os : Os) : World.Shaped Tryd.prog (World.laidAll Tryd.prog os laidL) := World.shaped_of_ZipB (by kernel_rfl) (by kernel_rfl)
theorem laid_plain : (laidL.all fun x => x.2.handleName?.isNone) = true := by kernel_rfl
theorem laid_met (os : Os) (args : Array Value) : laidMetH Tryd.prog laidL ((World.laidAll Tryd.prog os laidL).forCall (fun _ _ => 0) ⟨#[], args, []⟩).memory := by
  rw [MakeChecks.laidMetH_plain _ _ _ laid_plain]; exact laidMet_laidAll _ (by kernel_rfl) (by kernel_rfl)
theorem pow10_data : (Rows.laid_internal_strconv_uint64pow10 : DataW Unit) = Lib.tabData .u64 Lib.pow10Tab := by kernel_rfl
theorem tab_of_laid {W : World} (h : laidMetH Tryd.prog laidL W) : Tab W := by
  rw [MakeChecks.laidMetH_plain _ _ _ laid_plain] at h
  have h2 := laidMet.tail (laidMet.tail (h))
  rw [pow10_data] at h2
  exact Lib.tabIs_of_head (g := 2) (t := 108) (e := 38) (n := 20) (by kernel_rfl) (by kernel_rfl) Tryd.underlying108 Tryd.underlying38 (by kernel_rfl) (by kernel_rfl) h2
end Go.Proofs.YtflnchbamlcgaaaDoor
