/- Slices of points: a row of points in a block, and what the laws' near answers of it. -/
import Derived.Test.YtalgmnnimfenpaaDoorCorn
namespace Go.Proofs.YtalgmnnimfenpaaDoor
open Go.RowKit
set_option linter.unusedVariables false
set_option linter.unusedSimpArgs false
set_option maxHeartbeats 4000000
set_option maxRecDepth 100000

/-- Block g holds these points, one behind the other. -/
def Row (g : Nat) (l : List (Int × Int)) (x : World) : Prop :=
  g < x.heap.size ∧ ∀ (i : Nat) (p : Int × Int), l[i]? = some p → x.cell? ⟨g, i * 2, none⟩ = some (.int .i64 p.1) ∧ x.cell? ⟨g, i * 2 + 1, none⟩ = some (.int .i64 p.2)
theorem Row.step {g : Nat} {l : List (Int × Int)} {x y : World} (h : Row g l x) (hb : Below x.heap.size x y) : Row g l y :=
  ⟨Nat.lt_of_lt_of_le h.1 hb.size, fun i p hp => ⟨(hb.cell (p := ⟨g, i * 2, none⟩) h.1).trans (h.2 i p hp).1, (hb.cell (p := ⟨g, i * 2 + 1, none⟩) h.1).trans (h.2 i p hp).2⟩⟩
end Go.Proofs.YtalgmnnimfenpaaDoor
