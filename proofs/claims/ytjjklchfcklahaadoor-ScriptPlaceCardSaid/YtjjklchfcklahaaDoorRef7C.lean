/- Segments: whether they are a dot, and where they end: the document's own answers. -/
import Derived.Test.YtjjklchfcklahaaDoorRef7
namespace Go.Proofs.YtjjklchfcklahaaDoor
open Go.RowKit
set_option linter.unusedVariables false
set_option linter.unusedSimpArgs false
set_option maxHeartbeats 4000000
set_option maxRecDepth 100000

theorem ne_pt7 (x y u v : Int) (b : Bool) (h : decide ((x, y) = (u, v)) = b) (w : World) :
    (binOp .neq 44 (P2 x y) (P2 u v)).run Tryd.prog w = .ok (.bool (!b)) w := by
  have h2 : (x == u && y == v) = b := by
    rw [← h]
    by_cases hx : x = u <;> by_cases hy : y = v <;> simp [hx, hy]
  subst h2
  cases hx : (x == u) <;> cases hy : (y == v) <;> simp [go_sem, hx, hy]

end Go.Proofs.YtjjklchfcklahaaDoor
