/- Square roots, rounded down: plain facts. -/
import Derived.Test.YtlgfnhapjhoelaaNum
namespace Go.Proofs.Ytlgfnhapjhoelaa

/-- The greatest number up to k whose square is n at most. -/
def isq (n : Nat) : Nat → Nat
  | 0 => 0
  | k + 1 => if (k + 1) * (k + 1) ≤ n then k + 1 else isq n k
def rt (n : Nat) : Nat := isq n n

theorem isq_le (n k : Nat) : isq n k * isq n k ≤ n := by
  induction k with
  | zero => simp [isq]
  | succ k ih => unfold isq; split <;> assumption
theorem sq_mono {a b : Nat} (h : a ≤ b) : a * a ≤ b * b := Nat.mul_le_mul h h
theorem isq_gt (n k : Nat) (h : n < (k + 1) * (k + 1)) : n < (isq n k + 1) * (isq n k + 1) := by
  induction k with
  | zero => simpa [isq] using h
  | succ k ih =>
    unfold isq
    split
    · exact h
    · rename_i g; exact ih (by omega)
theorem rt_spec (n : Nat) : rt n * rt n ≤ n ∧ n < (rt n + 1) * (rt n + 1) :=
  ⟨isq_le n n, isq_gt n n (by have := Nat.le_mul_of_pos_right (n + 1) (show 0 < n + 1 by omega); omega)⟩
theorem rt_unique (n r : Nat) (h1 : r * r ≤ n) (h2 : n < (r + 1) * (r + 1)) : r = rt n := by
  have s := rt_spec n
  have a : r ≤ rt n := by
    refine Nat.le_of_not_lt (fun g => ?_)
    have := sq_mono (show rt n + 1 ≤ r by omega)
    omega
  have b : rt n ≤ r := by
    refine Nat.le_of_not_lt (fun g => ?_)
    have := sq_mono (show r + 1 ≤ rt n by omega)
    omega
  omega
end Go.Proofs.Ytlgfnhapjhoelaa
