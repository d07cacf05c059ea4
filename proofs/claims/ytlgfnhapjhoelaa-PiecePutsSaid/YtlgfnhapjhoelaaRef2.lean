/- What the document's own roots answer. -/
import Derived.Test.YtlgfnhapjhoelaaRefB
import Derived.Test.YtlgfnhapjhoelaaMore
import Derived.Test.YtlgfnhapjhoelaaRootNum
namespace Go.Proofs.Ytlgfnhapjhoelaa
open Go.RowKit
set_option linter.unusedVariables false
set_option linter.unusedSimpArgs false
set_option maxHeartbeats 2000000

/-- What upTo keeps: the number a in its box, mid at g7, the square so far, S, at g8. -/
structure Sq (w : World) (a mid : Int) (g7 g8 : Nat) (S : Int) (wr : World) : Prop where
  c0 : wr.cell? ⟨w.heap.size, 0, none⟩ = some (.int .i64 (hi a))
  c1 : wr.cell? ⟨w.heap.size, 1, none⟩ = some (.int .u64 (lo a))
  d0 : wr.cell? ⟨g7, 0, none⟩ = some (.int .i64 (hi mid))
  d1 : wr.cell? ⟨g7, 1, none⟩ = some (.int .u64 (lo mid))
  e0 : wr.cell? ⟨g8, 0, none⟩ = some (.int .i64 (hi S))
  e1 : wr.cell? ⟨g8, 1, none⟩ = some (.int .u64 (lo S))
  f0 : wr.frozen? ⟨g8, 0, none⟩ = false
  f1 : wr.frozen? ⟨g8, 1, none⟩ = false
  l0 : w.heap.size < wr.heap.size
  l7 : g7 < wr.heap.size
  l8 : g8 < wr.heap.size
  n0 : g8 ≠ w.heap.size
  n7 : g8 ≠ g7
  gb : w.heap.size ≤ g8
  bel : Below w.heap.size w wr
theorem Sq.step {w : World} {a mid : Int} {g7 g8 : Nat} {S : Int} {x y : World} (k : Sq w a mid g7 g8 S x) (hb : Below x.heap.size x y) : Sq w a mid g7 g8 S y :=
  ⟨(hb.cell (p := ⟨w.heap.size, 0, none⟩) k.l0).trans k.c0, (hb.cell (p := ⟨w.heap.size, 1, none⟩) k.l0).trans k.c1, (hb.cell (p := ⟨g7, 0, none⟩) k.l7).trans k.d0, (hb.cell (p := ⟨g7, 1, none⟩) k.l7).trans k.d1,
    (hb.cell (p := ⟨g8, 0, none⟩) k.l8).trans k.e0, (hb.cell (p := ⟨g8, 1, none⟩) k.l8).trans k.e1, (hb.frozen (p := ⟨g8, 0, none⟩) k.l8).trans k.f0, (hb.frozen (p := ⟨g8, 1, none⟩) k.l8).trans k.f1,
    Nat.lt_of_lt_of_le k.l0 hb.size, Nat.lt_of_lt_of_le k.l7 hb.size, Nat.lt_of_lt_of_le k.l8 hb.size, k.n0, k.n7, k.gb, k.bel.trans (hb.mono (Nat.le_of_lt k.l0))⟩
theorem Sq.put {w : World} {a mid : Int} {g7 g8 : Nat} {S : Int} {x : World} (k : Sq w a mid g7 g8 S x) (S' : Int) : Sq w a mid g7 g8 S' ((x.setCell ⟨g8, 0, none⟩ (.int .i64 (hi S'))).setCell ⟨g8, 1, none⟩ (.int .u64 (lo S'))) :=
  ⟨(cell_far _ _ _ _ k.n0).trans ((cell_far _ _ _ _ k.n0).trans k.c0), (cell_far _ _ _ _ k.n0).trans ((cell_far _ _ _ _ k.n0).trans k.c1), (cell_far _ _ _ _ k.n7).trans ((cell_far _ _ _ _ k.n7).trans k.d0), (cell_far _ _ _ _ k.n7).trans ((cell_far _ _ _ _ k.n7).trans k.d1),
    by rw [World.cell?_setCell_other _ _ _ _ (by simp)]; exact World.cell?_setCell_same _ _ _ k.e0, World.cell?_setCell_same _ _ _ ((World.cell?_setCell_other _ _ _ _ (by simp)).trans k.e1),
    by rw [World.frozen?_setCell, World.frozen?_setCell]; exact k.f0, by rw [World.frozen?_setCell, World.frozen?_setCell]; exact k.f1,
    by simpa [World.setCell] using k.l0, by simpa [World.setCell] using k.l7, by simpa [World.setCell] using k.l8, k.n0, k.n7, k.gb, (k.bel.setCell k.gb _).setCell k.gb _⟩
theorem Sq.drew {w : World} {a mid : Int} {g7 g8 : Nat} {S : Int} {x : World} (k : Sq w a mid g7 g8 S x) : Sq w a mid g7 g8 S x.drew := k.step (Below.refl _ _).drew

end Go.Proofs.Ytlgfnhapjhoelaa
