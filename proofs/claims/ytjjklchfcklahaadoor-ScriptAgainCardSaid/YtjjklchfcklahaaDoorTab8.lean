/- The tables that the program's own scripts read: what verbs take, the powers of ten, the verbs' letters. -/
import Derived.Test.YtjjklchfcklahaaDoorPthT
import Derived.Test.YtjjklchfcklahaaDoorFixB
import Derived.WalkSmall
namespace Go.Proofs.YtjjklchfcklahaaDoor
open Go.RowKit
set_option linter.unusedVariables false

def letCells : Array Value := #[.string ⟨#[]⟩, .string ⟨#[77]⟩, .string ⟨#[76]⟩, .string ⟨#[81]⟩, .string ⟨#[67]⟩, .string ⟨#[90]⟩]
/-- The verbs' letters are as the program's own text lays them. -/
def Tab9 (w : World) : Prop := w.var? Tryd.prog "ductus/script.letters" = some letCells
theorem gLet : Tryd.prog.globalNamed "ductus/script.letters" = some 0 := by kernel_rfl
theorem Tab9.cell {w : World} (h : Tab9 w) (i : Nat) : w.cell? ⟨0, i, none⟩ = letCells[i]? := World.var?_cell gLet h i
theorem Tab9.lt {w : World} (h : Tab9 w) : 0 < w.heap.size := by
  have h0 := h.cell 0
  rcases Nat.lt_or_ge 0 w.heap.size with k | k
  · exact k
  · simp [World.cell?, Array.getElem?_eq_none k, letCells] at h0
theorem Tab9.step {w w' : World} (h : Tab9 w) (hb : Below w.heap.size w w') : Tab9 w' := var?_below hb gLet h.lt h
def Tabs8 (w : World) : Prop := Tab7 w ∧ Tab w ∧ Tab9 w
theorem Tabs8.step {w w' : World} (h : Tabs8 w) (hb : Below w.heap.size w w') : Tabs8 w' := ⟨h.1.step hb, h.2.1.step hb, h.2.2.step hb⟩
end Go.Proofs.YtjjklchfcklahaaDoor
