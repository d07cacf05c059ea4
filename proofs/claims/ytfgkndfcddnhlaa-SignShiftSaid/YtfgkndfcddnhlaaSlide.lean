/- A row of points whose points are turned one after the other, in place. -/
import Derived.Test.YtfgkndfcddnhlaaPts
namespace Go.Proofs.Ytfgkndfcddnhlaa
open Go.RowKit
set_option linter.unusedVariables false
set_option linter.unusedSimpArgs false
set_option maxHeartbeats 4000000

/-- The k first ones are turned. -/
def mixL (f : Int × Int → Int × Int) (l : List (Int × Int)) (k : Nat) : List (Int × Int) := (l.take k).map f ++ l.drop k
theorem mix_0 (f) (l : List (Int × Int)) : mixL f l 0 = l := by unfold mixL; simp
theorem mix_end (f) (l : List (Int × Int)) : mixL f l l.length = l.map f := by unfold mixL; simp
theorem mix_len (f) (l : List (Int × Int)) (k : Nat) : (mixL f l k).length = l.length := by unfold mixL; simp; omega
theorem mix_at (f) {l : List (Int × Int)} {k : Nat} {p : Int × Int} (h : l[k]? = some p) : (mixL f l k)[k]? = some p := by
  have hk : k < l.length := (List.getElem?_eq_some_iff.1 h).1
  unfold mixL
  rw [List.getElem?_append_right (by simp; omega)]
  simp only [List.length_map, List.length_take, Nat.min_eq_left (Nat.le_of_lt hk), Nat.sub_self, List.getElem?_drop, Nat.add_zero]
  exact h
theorem mix_set (f) {l : List (Int × Int)} {k : Nat} {p : Int × Int} (h : l[k]? = some p) : (mixL f l k).set k (f p) = mixL f l (k + 1) := by
  have hk : k < l.length := (List.getElem?_eq_some_iff.1 h).1
  have e : l[k] = p := (List.getElem?_eq_some_iff.1 h).2
  unfold mixL
  rw [List.set_append_right _ _ (by simp; omega)]
  simp only [List.length_map, List.length_take, Nat.min_eq_left (Nat.le_of_lt hk), Nat.sub_self]
  rw [List.drop_eq_getElem_cons hk, List.set_cons_zero, List.take_succ_eq_append_getElem hk, List.map_append, List.append_assoc, e]
  rfl

/-- Block g is a row of the call's own; what lies below it is as it was in w0. -/
structure Sh (g : Nat) (l : List (Int × Int)) (w0 x : World) : Prop where
  row : Row g l x
  frz : ∀ i, x.frozen? ⟨g, i, none⟩ = false
  bel : Below g w0 x
theorem Sh.step {g : Nat} {l : List (Int × Int)} {w0 x y : World} (h : Sh g l w0 x) (hb : Below x.heap.size x y) : Sh g l w0 y :=
  ⟨h.row.step hb, fun i => (hb.frozen (p := ⟨g, i, none⟩) h.row.1).trans (h.frz i), h.bel.trans (hb.mono (Nat.le_of_lt h.row.1))⟩
theorem Sh.drew {g : Nat} {l : List (Int × Int)} {w0 x : World} (h : Sh g l w0 x) : Sh g l w0 x.drew := h.step (Below.refl _ _).drew
theorem Sh.put {g : Nat} {l : List (Int × Int)} {w0 x : World} (h : Sh g l w0 x) (k : Nat) (a b : Int) (hk : k < l.length) :
    Sh g (l.set k (a, b)) w0 ((x.setCell ⟨g, k * 2, none⟩ (.int .i64 a)).setCell ⟨g, k * 2 + 1, none⟩ (.int .i64 b)) := by
  obtain ⟨c0, c1⟩ := h.row.2 k _ (List.getElem?_eq_getElem hk)
  refine ⟨⟨by simpa [World.setCell] using h.row.1, fun i p hp => ?_⟩, fun i => by rw [World.frozen?_setCell, World.frozen?_setCell]; exact h.frz i, Below.setCell (p := ⟨g, k * 2 + 1, none⟩) (Below.setCell (p := ⟨g, k * 2, none⟩) h.bel (Nat.le_refl g) _) (Nat.le_refl g) _⟩
  by_cases e : i = k
  · subst e
    rw [List.getElem?_set_self hk] at hp
    obtain rfl := Option.some.inj hp
    refine ⟨?_, ?_⟩
    · rw [World.cell?_setCell_other _ _ _ _ (by simp)]
      exact World.cell?_setCell_same _ _ _ c0
    · exact World.cell?_setCell_same _ _ _ ((World.cell?_setCell_other _ _ _ _ (by simp)).trans c1)
  · rw [List.getElem?_set_ne (by omega)] at hp
    obtain ⟨d0, d1⟩ := h.row.2 i p hp
    refine ⟨?_, ?_⟩
    · rw [World.cell?_setCell_other _ _ _ _ (by simp <;> omega), World.cell?_setCell_other _ _ _ _ (by simp <;> omega)]; exact d0
    · rw [World.cell?_setCell_other _ _ _ _ (by simp <;> omega), World.cell?_setCell_other _ _ _ _ (by simp <;> omega)]; exact d1
end Go.Proofs.Ytfgkndfcddnhlaa
