/- Slices that are made of a path's, in a box of their own: what the orders of one statement share. -/
import Derived.Test.YtalgmnnimfenpaaDoorPin7
import Derived.Test.YtalgmnnimfenpaaDoorApp13
namespace Go.Proofs.YtalgmnnimfenpaaDoor
open Go.RowKit
set_option linter.unusedVariables false
set_option linter.unusedSimpArgs false
set_option maxHeartbeats 2000000

theorem flatP_at : ∀ (l : List Pnt) (j : Nat) (u : Value), (flatP l)[j]? = some u → ∃ p, l[j / 2]? = some p ∧ ((j = j / 2 * 2 ∧ u = .int .i64 p.1) ∨ (j = j / 2 * 2 + 1 ∧ u = .int .i64 p.2))
  | [], j, u, h => by simp [flatP] at h
  | p :: t, 0, u, h => ⟨p, rfl, .inl ⟨rfl, by simpa [flatP] using h.symm⟩⟩
  | p :: t, 1, u, h => ⟨p, rfl, .inr ⟨rfl, by simpa [flatP] using h.symm⟩⟩
  | p :: t, j + 2, u, h => by
    have h' : (flatP t)[j]? = some u := by simpa [flatP] using h
    obtain ⟨q, hq, hu⟩ := flatP_at t j u h'
    have e : (j + 2) / 2 = j / 2 + 1 := by omega
    refine ⟨q, by rw [e]; simpa using hq, ?_⟩
    rcases hu with ⟨a, b⟩ | ⟨a, b⟩
    · exact .inl ⟨by omega, b⟩
    · exact .inr ⟨by omega, b⟩
theorem cor_news {w : World} {B : Nat} {A : Option Addr} {l : List Pnt} (h : Cor w B A l) : ∀ (j : Nat) (u : Value), (flatP l)[j]? = some u → ∃ ad, A = some ad ∧ w.cell? (ad.add j) = some u := fun j u hu => by
  obtain ⟨p, hp, hc⟩ := flatP_at l j u hu
  obtain ⟨ad, hA, _, g1, g2⟩ := h.at_ hp
  refine ⟨ad, hA, ?_⟩
  rcases hc with ⟨e, rfl⟩ | ⟨e, rfl⟩
  · rw [e]; exact g1
  · rw [e, snd2_add]; exact g2
theorem flatP_one (l : List Pnt) : ∀ u ∈ flatP l, u.oneCell' = true := fun u hu => by
  unfold flatP at hu
  obtain ⟨p, _, hp⟩ := List.mem_flatMap.1 hu
  simp only [List.mem_cons, List.not_mem_nil, or_false] at hp
  rcases hp with rfl | rfl <;> rfl
theorem flatP_len (l : List Pnt) : (flatP l).length = l.length * 2 := by
  induction l with
  | nil => rfl
  | cons p t ih => unfold flatP at ih ⊢; rw [List.flatMap_cons, List.length_append, ih]; simp; omega
/-- A path in a box of its own. -/
def BoxOut (w0 : World) (vs : List Int) (ps : List Pnt) (s : Value) (z : World) : Prop :=
  ∃ (g : Nat) (A : Option Addr) (c : Nat) (B : Option Addr) (d : Nat), s = .pointer (some ⟨g, 0, none⟩) ∧ (z.cell? ⟨g, 0, none⟩ = some (.slice A vs.length c) ∧ z.cell? ⟨g, 1, none⟩ = some (.slice B ps.length d)) ∧ Vals z z.heap.size A (vs.map iV) ∧ Cor z z.heap.size B ps ∧ (w0.heap.size ≤ g ∧ g < z.heap.size) ∧ Below w0.heap.size w0 z
theorem box_out {w0 z : World} {gP c d : Nat} {A B : Option Addr} {vs : List Int} {ps : List Pnt} {t : TypeId} (n m : Nat) (hn : vs.length = n) (hm : ps.length = m) (hP : z.heap[gP]? = some (.cells #[.slice none 0 0, .slice none 0 0] t))
    (hv : Vals z z.heap.size A (vs.map iV)) (hc : Cor z z.heap.size B ps) (hA : 0 < (vs.map iV).length → ∀ ad, A = some ad → ad.block ≠ gP) (hB : 0 < ps.length → ∀ ad, B = some ad → ad.block ≠ gP) (hg : w0.heap.size ≤ gP) (hb : Below w0.heap.size w0 z) :
    BoxOut w0 vs ps (.pointer (some ⟨gP, 0, none⟩)) ((z.setCell ⟨gP, 0, none⟩ (.slice A n c)).setCell ⟨gP, 1, none⟩ (.slice B m d)) := by
  have hlt : gP < z.heap.size := by
    rcases Nat.lt_or_ge gP z.heap.size with h1 | h1
    · exact h1
    · rw [Array.getElem?_eq_none h1] at hP; cases hP
  have c0 := (blk_cell hP (j := 0) rfl).1
  have c1 := (blk_cell hP (j := 1) rfl).1
  have hz : ((z.setCell ⟨gP, 0, none⟩ (.slice A n c)).setCell ⟨gP, 1, none⟩ (.slice B m d)).heap.size = z.heap.size := by simp [World.setCell]
  refine ⟨gP, A, c, B, d, rfl, ⟨?_, ?_⟩, ?_, ?_, ⟨hg, by rw [hz]; exact hlt⟩, (hb.setCell hg _).setCell hg _⟩
  · rw [hn]; exact (World.cell?_setCell_other _ _ _ _ (by simp)).trans (World.cell?_setCell_same _ _ _ c0)
  · rw [hm]; exact World.cell?_setCell_same _ _ _ ((World.cell?_setCell_other _ _ _ _ (by simp)).trans c1)
  · rw [hz]; exact fun h0 => (Vals.set (Vals.set hv _ _ (hA h0)) _ _ (hA h0)) h0
  · rw [hz]; exact fun h0 => (Cor.set (Cor.set hc _ _ (hB h0)) _ _ (hB h0)) h0
theorem box_new {w0 z : World} {gP c d : Nat} {A B : Option Addr} {vs : List Int} {ps : List Pnt} {t : TypeId} (n m : Nat) (hn : vs.length = n) (hm : ps.length = m)
    (hv : Vals z z.heap.size A (vs.map iV)) (hc : Cor z z.heap.size B ps) (hg : gP = z.heap.size) (hA : 0 < (vs.map iV).length → ∀ ad, A = some ad → ad.block ≠ gP) (hB : 0 < ps.length → ∀ ad, B = some ad → ad.block ≠ gP) (hz : w0.heap.size ≤ z.heap.size) (hb : Below w0.heap.size w0 z) :
    BoxOut w0 vs ps (.pointer (some ⟨gP, 0, none⟩)) (z.alloc (Obj.cells #[.slice A n c, .slice B m d] t)) := by
  subst hg hn hm
  have hal := (Below.refl z.heap.size z).alloc (Nat.le_refl _) (Obj.cells #[.slice A vs.length c, .slice B ps.length d] t)
  have hb0 := blk_cell (blk_new z (Obj.cells #[.slice A vs.length c, .slice B ps.length d] t) z.heap.size rfl) (j := 0) (u := .slice A vs.length c) rfl
  have hb1 := blk_cell (blk_new z (Obj.cells #[.slice A vs.length c, .slice B ps.length d] t) z.heap.size rfl) (j := 1) (u := .slice B ps.length d) rfl
  exact ⟨_, A, c, B, d, rfl, ⟨hb0.1, hb1.1⟩, (hv.step hal).more hal.size, (hc.step hal).more hal.size, ⟨hz, by simp⟩, hb.alloc hz _⟩
theorem own_ne {a : Option Addr} {n c g k : Nat} (h : (Value.slice a n c).ownBlock ≠ some g) : 0 < k → ∀ ad, a = some ad → ad.block ≠ g := fun _ ad e k => by subst e; exact h (by rw [← k]; rfl)
theorem Vals.lt {w : World} {B : Nat} {A : Option Addr} {vs : List Value} (h : Vals w B A vs) {g : Nat} (hg : B ≤ g) : 0 < vs.length → ∀ ad, A = some ad → ad.block ≠ g := fun h0 ad e k => by
  obtain ⟨ad', e', hB, _⟩ := h h0
  rw [e] at e'; cases e'; omega
theorem Cor.lt {w : World} {B : Nat} {A : Option Addr} {l : List Pnt} (h : Cor w B A l) {g : Nat} (hg : B ≤ g) : 0 < l.length → ∀ ad, A = some ad → ad.block ≠ g := fun h0 ad e k => by
  obtain ⟨ad', e', hB, _⟩ := h h0
  rw [e] at e'; cases e'; omega
end Go.Proofs.YtalgmnnimfenpaaDoor
