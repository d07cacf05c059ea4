/- The program's own iterator of guesses at a root: its contract. -/
import Derived.RangeFuncNested
import Derived.RangeFuncBound
import Derived.RangeFuncCalls
import Derived.RangeFuncLeaves
import Derived.RangeFuncFrom
import Derived.Shelf.Abstract
import Derived.Shelf.RegionOpen
import Derived.WalkKit
import Derived.OwnWalkIn
import Derived.TacticsInMore
import Derived.LoopNIn
import Derived.LoopIn
import Derived.Test.YtfgkndfcddnhlaaRootA
namespace Go.Proofs.Ytfgkndfcddnhlaa
open Go.RowKit Go.Shelf
set_option linter.unusedVariables false
set_option linter.unusedSimpArgs false
set_option maxHeartbeats 2000000
set_option maxRecDepth 100000
attribute [local go_sem] Oper.semAt_some

/-- The two cells that the iterator has captured stay as they are. -/
def Two (B1 B2 : Nat) (A B : World) : Prop :=
  ∀ v, (A.cell? ⟨B1, 0, none⟩ = some v → B.cell? ⟨B1, 0, none⟩ = some v) ∧ (A.cell? ⟨B2, 0, none⟩ = some v → B.cell? ⟨B2, 0, none⟩ = some v)
theorem two_t {B1 B2 : Nat} {A B C : World} (h : Two B1 B2 A B) (k : Two B1 B2 B C) : Two B1 B2 A C := fun v => ⟨fun e => (k v).1 ((h v).1 e), fun e => (k v).2 ((h v).2 e)⟩
theorem grown_drew (w : World) (n : Nat) (row : Option Nat) : w.grownBy (w.drewN n) row := ⟨rfl, rfl, rfl, Nat.le_refl _, fun _ _ _ => rfl⟩
theorem two_b {B1 B2 : Nat} (W : World) (l : Nat) (o o' : Obj) (h : W.heap[l]? = some o) (ho : o.isCells = false) : Two B1 B2 W (W.putObj l o') := fun v =>
  ⟨fun e => cell_kept e (grownBy_putObj' W l o') (fun r e => by cases e; exact ⟨o, h, ho⟩), fun e => cell_kept e (grownBy_putObj' W l o') (fun r e => by cases e; exact ⟨o, h, ho⟩)⟩
theorem two_set {B1 B2 b : Nat} (W : World) (v : Value) (h1 : b ≠ B1) (h2 : b ≠ B2) : Two B1 B2 W (W.setCell ⟨b, 0, none⟩ v) := fun v =>
  ⟨fun e => (cell_far _ _ _ _ h1).trans e, fun e => (cell_far _ _ _ _ h2).trans e⟩

end Go.Proofs.Ytfgkndfcddnhlaa
