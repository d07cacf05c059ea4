/- A row of points of one's own is a slice of corners. -/
import Derived.Test.YtlgfnhapjhoelaaRef6E
namespace Go.Proofs.Ytlgfnhapjhoelaa
open Go.RowKit
set_option linter.unusedVariables false
set_option linter.unusedSimpArgs false
set_option maxHeartbeats 4000000

theorem flatP_cons (p : Pnt) (l : List Pnt) : flatP (p :: l) = .int .i64 p.1 :: .int .i64 p.2 :: flatP l := by unfold flatP; simp
theorem flatP_length (l : List Pnt) : (flatP l).length = l.length * 2 := by
  induction l with
  | nil => rfl
  | cons p l ih => rw [flatP_cons]; simp [ih]; omega
theorem flatP_get (l : List Pnt) : ∀ (i : Nat) (p : Pnt), l[i]? = some p → (flatP l)[i * 2]? = some (.int .i64 p.1) ∧ (flatP l)[i * 2 + 1]? = some (.int .i64 p.2) := by
  induction l with
  | nil => intro i p h; simp at h
  | cons q l ih =>
    intro i p h
    rw [flatP_cons]
    cases i with
    | zero => simp at h; subst h; exact ⟨rfl, rfl⟩
    | succ i =>
      have := ih i p (by simpa using h)
      rw [show (i + 1) * 2 = i * 2 + 1 + 1 by omega]
      simpa using this
/-- What a row of one's own holds, as a slice of corners. -/
theorem cor_of_row {w : World} {B : Nat} {e : TypeId} {v : Value} {n : Nat} {l : List Pnt} (h : w.ownsRow B e 2 v n (flatP l)) : ∃ A cap, v = .slice A l.length cap ∧ l.length = n ∧ Cor w w.heap.size A l ∧ (A = none → v = .slice none 0 0) := by
  obtain ⟨hl, ⟨hv, hn⟩ | ⟨g, cap, cur, hv, hB, hh, hcap, hmax, hsz, htk⟩⟩ := h
  · rw [flatP_length] at hl
    have h0 : l.length = 0 := by omega
    exact ⟨none, 0, by rw [hv, h0], by omega, fun h => by omega, fun _ => hv⟩
  · rw [flatP_length] at hl
    have h0 : l.length = n := by omega
    have hg : g < w.heap.size := by
      rcases Nat.lt_or_ge g w.heap.size with h1 | h1
      · exact h1
      · rw [Array.getElem?_eq_none h1] at hh; cases hh
    have ge : ∀ j u, (flatP l)[j]? = some u → w.cell? ⟨g, j, none⟩ = some u := fun j u hu => by
      rw [cell_of_row w g j cur e (0, 0) hh]
      rw [← htk, List.getElem?_take] at hu
      by_cases hj : j < n * 2
      · rw [if_pos hj] at hu; simpa using hu
      · rw [if_neg hj] at hu; cases hu
    refine ⟨some ⟨g, 0, none⟩, cap, by rw [hv, h0], h0, fun _ => ⟨⟨g, 0, none⟩, rfl, hg, fun i p hp => ?_⟩, fun h => by cases h⟩
    have ha : (⟨g, 0, none⟩ : Addr).add (i * 2) = ⟨g, i * 2, none⟩ := by unfold Addr.add; split <;> simp_all
    rw [ha]
    have hp2 := flatP_get l i p hp
    exact ⟨ge _ _ hp2.1, ge _ _ hp2.2⟩
end Go.Proofs.Ytlgfnhapjhoelaa
