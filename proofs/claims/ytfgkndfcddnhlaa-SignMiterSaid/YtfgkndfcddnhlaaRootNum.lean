/- Square roots, rounded down: plain facts. -/
import Derived.Test.YtfgkndfcddnhlaaNum
namespace Go.Proofs.Ytfgkndfcddnhlaa

/-- The greatest number up to k whose square is n at most. -/
def isq (n : Nat) : Nat → Nat
  | 0 => 0
  | k + 1 => if (k + 1) * (k + 1) ≤ n then k + 1 else isq n k
def rt (n : Nat) : Nat := isq n n

theorem isq_le (n k : Nat) : isq n k * isq n k ≤ n := by
  induction k with
  | zero => simp [isq]
  | succ k ih => unfold isq; split <;> assumption
theorem sq_mono {a b : Nat} (h : a ≤ b) : a * a ≤ b * b := Nat.mul_le_mul h h
theorem isq_gt (n k : Nat) (h : n < (k + 1) * (k + 1)) : n < (isq n k + 1) * (isq n k + 1) := by
  induction k with
  | zero => simpa [isq] using h
  | succ k ih =>
    unfold isq
    split
    · exact h
    · rename_i g; exact ih (by omega)
theorem rt_spec (n : Nat) : rt n * rt n ≤ n ∧ n < (rt n + 1) * (rt n + 1) :=
  ⟨isq_le n n, isq_gt n n (by have := Nat.le_mul_of_pos_right (n + 1) (show 0 < n + 1 by omega); omega)⟩
theorem rt_unique (n r : Nat) (h1 : r * r ≤ n) (h2 : n < (r + 1) * (r + 1)) : r = rt n := by
  have s := rt_spec n
  have a : r ≤ rt n := by
    refine Nat.le_of_not_lt (fun g => ?_)
    have := sq_mono (show rt n + 1 ≤ r by omega)
    omega
  have b : rt n ≤ r := by
    refine Nat.le_of_not_lt (fun g => ?_)
    have := sq_mono (show r + 1 ≤ rt n by omega)
    omega
  omega
theorem rt_sq (x : Nat) : rt (x * x) = x := (rt_unique _ _ (Nat.le_refl _) (by rw [Nat.add_mul, Nat.mul_add]; omega)).symm
theorem rt_mono {a b : Nat} (h : a ≤ b) : rt a ≤ rt b := by
  have s := rt_spec a
  have t := rt_spec b
  refine Nat.le_of_not_lt (fun g => ?_)
  have := sq_mono (show rt b + 1 ≤ rt a by omega)
  omega
/-- x² is n at most just where x is no greater than the root. -/
theorem le_rt (x n : Nat) : x * x ≤ n ↔ x ≤ rt n := by
  have s := rt_spec n
  constructor
  · intro h
    refine Nat.le_of_not_lt (fun g => ?_)
    have := sq_mono (show rt n + 1 ≤ x by omega)
    omega
  · intro h
    exact Nat.le_trans (sq_mono h) s.1
theorem rt_lt {n b : Nat} (h : n < b * b) : rt n < b := by
  refine Nat.lt_of_not_le (fun g => ?_)
  have := (le_rt b n).2 g
  omega
theorem rt_0 : rt 0 = 0 := rfl
end Go.Proofs.Ytfgkndfcddnhlaa
