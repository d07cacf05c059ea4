/- What the document's own roots answer: Long, Sqrt, Square. -/
import Derived.Test.YtlgfnhapjhoelaaRef2
namespace Go.Proofs.Ytlgfnhapjhoelaa
open Go.RowKit
set_option linter.unusedVariables false
set_option linter.unusedSimpArgs false
set_option maxHeartbeats 2000000

/-- What a root's bits come to: x² is A at most, and A is below the square of x and 2^k. -/
structure Bits (A k x : Nat) : Prop where
  le : x * x ≤ A
  gt : A < (x + 2 ^ k) * (x + 2 ^ k)
  bd : x + 2 ^ k ≤ 18446744073709551616
theorem Bits.done {A x : Nat} (b : Bits A 0 x) : x = rt A := rt_unique A x b.le b.gt
end Go.Proofs.Ytlgfnhapjhoelaa
