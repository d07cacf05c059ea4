/- What the document's own wide numbers answer: Div. -/
import Derived.Test.YtlgfnhapjhoelaaRefA
import Derived.Test.YtlgfnhapjhoelaaMore
import Derived.Test.YtlgfnhapjhoelaaBitNum
namespace Go.Proofs.Ytlgfnhapjhoelaa
open Go.RowKit
set_option linter.unusedVariables false
set_option linter.unusedSimpArgs false
set_option maxHeartbeats 2000000

/-- What the loop keeps: the quotient's box at block g, the result's at block t. -/
structure Keep (w : World) (g t : Nat) (Q : Int) (wr : World) : Prop where
  c0 : wr.cell? ⟨g, 0, none⟩ = some (.int .i64 (hi Q))
  c1 : wr.cell? ⟨g, 1, none⟩ = some (.int .u64 (lo Q))
  f0 : wr.frozen? ⟨g, 0, none⟩ = false
  f1 : wr.frozen? ⟨g, 1, none⟩ = false
  own : OwnN t 2 wr
  gl : g < wr.heap.size
  tl : t < wr.heap.size
  ne : g ≠ t
  gb : w.heap.size ≤ g
  tb : w.heap.size ≤ t
  bel : Below w.heap.size w wr
theorem Keep.step {w : World} {g t : Nat} {Q : Int} {x y : World} (k : Keep w g t Q x) (hb : Below x.heap.size x y) : Keep w g t Q y :=
  ⟨(hb.cell (p := ⟨g, 0, none⟩) k.gl).trans k.c0, (hb.cell (p := ⟨g, 1, none⟩) k.gl).trans k.c1, (hb.frozen (p := ⟨g, 0, none⟩) k.gl).trans k.f0, (hb.frozen (p := ⟨g, 1, none⟩) k.gl).trans k.f1,
    k.own.below hb k.tl, Nat.lt_of_lt_of_le k.gl hb.size, Nat.lt_of_lt_of_le k.tl hb.size, k.ne, k.gb, k.tb, k.bel.trans (hb.mono (by have := k.bel.size; omega))⟩
theorem Keep.put {w : World} {g t : Nat} {Q : Int} {x : World} (k : Keep w g t Q x) (Q' : Int) : Keep w g t Q' ((x.setCell ⟨g, 0, none⟩ (.int .i64 (hi Q'))).setCell ⟨g, 1, none⟩ (.int .u64 (lo Q'))) :=
  ⟨by rw [World.cell?_setCell_other _ _ _ _ (by simp)]; exact World.cell?_setCell_same _ _ _ k.c0, World.cell?_setCell_same _ _ _ ((World.cell?_setCell_other _ _ _ _ (by simp)).trans k.c1),
    by rw [World.frozen?_setCell, World.frozen?_setCell]; exact k.f0, by rw [World.frozen?_setCell, World.frozen?_setCell]; exact k.f1,
    (k.own.setCell _ _).setCell _ _, by simpa [World.setCell] using k.gl, by simpa [World.setCell] using k.tl, k.ne, k.gb, k.tb, (k.bel.setCell k.gb _).setCell k.gb _⟩
theorem Keep.drew {w : World} {g t : Nat} {Q : Int} {x : World} (k : Keep w g t Q x) : Keep w g t Q x.drew := ⟨k.c0, k.c1, k.f0, k.f1, k.own, k.gl, k.tl, k.ne, k.gb, k.tb, k.bel.drew⟩

end Go.Proofs.Ytlgfnhapjhoelaa
