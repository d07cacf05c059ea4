/- What the document's own roots answer: Long, Sqrt, Square. -/
import Derived.Test.YtfgkndfcddnhlaaRef2
namespace Go.Proofs.Ytfgkndfcddnhlaa
open Go.RowKit
set_option linter.unusedVariables false
set_option linter.unusedSimpArgs false
set_option maxHeartbeats 2000000

/-- What a root's bits come to: x² is A at most, and A is below the square of x and 2^k. -/
structure Bits (A k x : Nat) : Prop where
  le : x * x ≤ A
  gt : A < (x + 2 ^ k) * (x + 2 ^ k)
  bd : x + 2 ^ k ≤ 18446744073709551616
theorem Bits.start (A : Nat) (hA : A < 170141183460469231731687303715884105728) : Bits A 64 0 :=
  ⟨by omega, by rw [Nat.zero_add, show (2 : Nat) ^ 64 * 2 ^ 64 = 340282366920938463463374607431768211456 from by decide]; omega, by decide⟩
theorem Bits.yes {A k x : Nat} (b : Bits A (k + 1) x) (h : (x + 2 ^ k) * (x + 2 ^ k) ≤ A) : Bits A k (x + 2 ^ k) := by
  have e : 2 ^ (k + 1) = 2 ^ k + 2 ^ k := by rw [Nat.pow_succ]; omega
  have g := b.gt; have d := b.bd
  rw [e] at g d
  exact ⟨h, by rw [Nat.add_assoc]; exact g, by omega⟩
theorem Bits.no {A k x : Nat} (b : Bits A (k + 1) x) (h : ¬ (x + 2 ^ k) * (x + 2 ^ k) ≤ A) : Bits A k x := by
  have e : 2 ^ (k + 1) = 2 ^ k + 2 ^ k := by rw [Nat.pow_succ]; omega
  have d := b.bd
  rw [e] at d
  exact ⟨b.le, by omega, Nat.le_trans (Nat.add_le_add_left (Nat.le_add_right _ _) _) d⟩
theorem Bits.done {A x : Nat} (b : Bits A 0 x) : x = rt A := rt_unique A x b.le b.gt
theorem half_pow (k : Nat) : 2 ^ (k + 1) / 2 = 2 ^ k := by rw [Nat.pow_succ]; omega

/-- Is n a square? -/
def isSq (n : Nat) : Bool := decide (rt n * rt n = n)
theorem rt_word {n : Nat} (hn : n < 18446744073709551616) : rt n < 4294967296 := rt_lt (by omega)
end Go.Proofs.Ytfgkndfcddnhlaa
