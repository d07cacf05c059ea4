/- What the document's own divisions of layer 3 answer: narrow, Scale, Near, Floor, Round. -/
import Derived.Test.YtlgfnhapjhoelaaRefB
import Derived.Test.YtlgfnhapjhoelaaRefC
namespace Go.Proofs.Ytlgfnhapjhoelaa
open Go.RowKit
set_option linter.unusedVariables false
set_option linter.unusedSimpArgs false
set_option maxHeartbeats 2000000

/-- One box of a wide number, at block g, made behind w. -/
structure Box (w : World) (g : Nat) (Q : Int) (wr : World) : Prop where
  c0 : wr.cell? ⟨g, 0, none⟩ = some (.int .i64 (hi Q))
  c1 : wr.cell? ⟨g, 1, none⟩ = some (.int .u64 (lo Q))
  f0 : wr.frozen? ⟨g, 0, none⟩ = false
  f1 : wr.frozen? ⟨g, 1, none⟩ = false
  gl : g < wr.heap.size
  gb : w.heap.size ≤ g
  bel : Below w.heap.size w wr
theorem Box.step {w : World} {g : Nat} {Q : Int} {x y : World} (k : Box w g Q x) (hb : Below x.heap.size x y) : Box w g Q y :=
  ⟨(hb.cell (p := ⟨g, 0, none⟩) k.gl).trans k.c0, (hb.cell (p := ⟨g, 1, none⟩) k.gl).trans k.c1, (hb.frozen (p := ⟨g, 0, none⟩) k.gl).trans k.f0, (hb.frozen (p := ⟨g, 1, none⟩) k.gl).trans k.f1,
    Nat.lt_of_lt_of_le k.gl hb.size, k.gb, k.bel.trans (hb.mono (by have := k.bel.size; omega))⟩
theorem Box.put {w : World} {g : Nat} {Q : Int} {x : World} (k : Box w g Q x) (Q' : Int) : Box w g Q' ((x.setCell ⟨g, 0, none⟩ (.int .i64 (hi Q'))).setCell ⟨g, 1, none⟩ (.int .u64 (lo Q'))) :=
  ⟨by rw [World.cell?_setCell_other _ _ _ _ (by simp)]; exact World.cell?_setCell_same _ _ _ k.c0, World.cell?_setCell_same _ _ _ ((World.cell?_setCell_other _ _ _ _ (by simp)).trans k.c1),
    by rw [World.frozen?_setCell, World.frozen?_setCell]; exact k.f0, by rw [World.frozen?_setCell, World.frozen?_setCell]; exact k.f1,
    by simpa [World.setCell] using k.gl, k.gb, (k.bel.setCell k.gb _).setCell k.gb _⟩
theorem Box.drew {w : World} {g : Nat} {Q : Int} {x : World} (k : Box w g Q x) : Box w g Q x.drew := k.step (Below.refl _ _).drew

end Go.Proofs.Ytlgfnhapjhoelaa
