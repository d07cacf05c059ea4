/- A row of points whose points are turned one after the other, in place. -/
import Derived.Test.YtalgmnnimfenpaaDoorPts
namespace Go.Proofs.YtalgmnnimfenpaaDoor
open Go.RowKit
set_option linter.unusedVariables false
set_option linter.unusedSimpArgs false
set_option maxHeartbeats 4000000

/-- Block g is a row of the call's own; what lies below it is as it was in w0. -/
structure Sh (g : Nat) (l : List (Int × Int)) (w0 x : World) : Prop where
  row : Row g l x
  frz : ∀ i, x.frozen? ⟨g, i, none⟩ = false
  bel : Below g w0 x
theorem Sh.step {g : Nat} {l : List (Int × Int)} {w0 x y : World} (h : Sh g l w0 x) (hb : Below x.heap.size x y) : Sh g l w0 y :=
  ⟨h.row.step hb, fun i => (hb.frozen (p := ⟨g, i, none⟩) h.row.1).trans (h.frz i), h.bel.trans (hb.mono (Nat.le_of_lt h.row.1))⟩
theorem Sh.drew {g : Nat} {l : List (Int × Int)} {w0 x : World} (h : Sh g l w0 x) : Sh g l w0 x.drew := h.step (Below.refl _ _).drew
theorem Sh.put {g : Nat} {l : List (Int × Int)} {w0 x : World} (h : Sh g l w0 x) (k : Nat) (a b : Int) (hk : k < l.length) :
    Sh g (l.set k (a, b)) w0 ((x.setCell ⟨g, k * 2, none⟩ (.int .i64 a)).setCell ⟨g, k * 2 + 1, none⟩ (.int .i64 b)) := by
  obtain ⟨c0, c1⟩ := h.row.2 k _ (List.getElem?_eq_getElem hk)
  refine ⟨⟨by simpa [World.setCell] using h.row.1, fun i p hp => ?_⟩, fun i => by rw [World.frozen?_setCell, World.frozen?_setCell]; exact h.frz i, Below.setCell (p := ⟨g, k * 2 + 1, none⟩) (Below.setCell (p := ⟨g, k * 2, none⟩) h.bel (Nat.le_refl g) _) (Nat.le_refl g) _⟩
  by_cases e : i = k
  · subst e
    rw [List.getElem?_set_self hk] at hp
    obtain rfl := Option.some.inj hp
    refine ⟨?_, ?_⟩
    · rw [World.cell?_setCell_other _ _ _ _ (by simp)]
      exact World.cell?_setCell_same _ _ _ c0
    · exact World.cell?_setCell_same _ _ _ ((World.cell?_setCell_other _ _ _ _ (by simp)).trans c1)
  · rw [List.getElem?_set_ne (by omega)] at hp
    obtain ⟨d0, d1⟩ := h.row.2 i p hp
    refine ⟨?_, ?_⟩
    · rw [World.cell?_setCell_other _ _ _ _ (by simp <;> omega), World.cell?_setCell_other _ _ _ _ (by simp <;> omega)]; exact d0
    · rw [World.cell?_setCell_other _ _ _ _ (by simp <;> omega), World.cell?_setCell_other _ _ _ _ (by simp <;> omega)]; exact d1
end Go.Proofs.YtalgmnnimfenpaaDoor
