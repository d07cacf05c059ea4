/- What the program's own roots lean on: the first guess, the mean of two words. -/
import Derived.Test.YtfgkndfcddnhlaaWideC
import Derived.Test.YtfgkndfcddnhlaaNewtNum
import Derived.Test.YtfgkndfcddnhlaaMore
namespace Go.Proofs.Ytfgkndfcddnhlaa
open Go.RowKit
set_option linter.unusedVariables false
set_option linter.unusedSimpArgs false
set_option maxHeartbeats 1000000

theorem and_u64 (a b : Nat) (ha : a < 18446744073709551616) (hb : b < 18446744073709551616) : bits .and .u64 (a : Int) (b : Int) = ((a &&& b : Nat) : Int) := by
  show IntKind.u64.wrap ((BitVec.ofInt 64 (a : Int) &&& BitVec.ofInt 64 (b : Int)).toNat : Nat) = _
  rw [BitVec.toNat_and, BitVec.toNat_ofInt, BitVec.toNat_ofInt, IntKind.wrap_u64]
  have e1 : ((a : Int) % ((2 ^ 64 : Nat) : Int)).toNat = a := by omega
  have e2 : ((b : Int) % ((2 ^ 64 : Nat) : Int)).toNat = b := by omega
  rw [e1, e2]
  have := Nat.and_le_left (n := a) (m := b)
  omega
theorem xor_u64 (a b : Nat) (ha : a < 18446744073709551616) (hb : b < 18446744073709551616) : bits .xor .u64 (a : Int) (b : Int) = ((a ^^^ b : Nat) : Int) := by
  show IntKind.u64.wrap ((BitVec.ofInt 64 (a : Int) ^^^ BitVec.ofInt 64 (b : Int)).toNat : Nat) = _
  rw [BitVec.toNat_xor, BitVec.toNat_ofInt, BitVec.toNat_ofInt, IntKind.wrap_u64]
  have e1 : ((a : Int) % ((2 ^ 64 : Nat) : Int)).toNat = a := by omega
  have e2 : ((b : Int) % ((2 ^ 64 : Nat) : Int)).toNat = b := by omega
  rw [e1, e2]
  have := Nat.xor_lt_two_pow (n := 64) (x := a) (y := b) (by omega) (by omega)
  omega

/-- All ones, in half as many digits as A has. -/
def ones (d : Nat) : Int := IntKind.u64.wrap (IntKind.u64.wrap (2 ^ ((d + 1) / 2)) - 1)
theorem ones_eq (d : Nat) (hd : d ≤ 128) : ones d = ((2 ^ ((d + 1) / 2) - 1 : Nat) : Int) := by
  unfold ones
  have hk : (d + 1) / 2 ≤ 64 := by omega
  generalize (d + 1) / 2 = k at *
  have hp : 0 < 2 ^ k := Nat.pow_pos (by omega)
  have hq : 2 ^ k ≤ 2 ^ 64 := Nat.pow_le_pow_right (by omega) hk
  have e : ((2 : Int) ^ k) = ((2 ^ k : Nat) : Int) := by simp
  rw [e]
  generalize 2 ^ k = p at *
  simp only [IntKind.wrap_u64]
  omega
theorem len_lt {x : Nat} (hx : x < 18446744073709551616) : x < 2 ^ Lib.bitLen x ∧ Lib.bitLen x ≤ 64 := by
  refine ⟨?_, Lib.bitLen_le x 64 (Nat.le_refl _) hx⟩
  rcases Nat.eq_zero_or_pos x with h | h
  · subst h; exact Nat.pow_pos (by omega)
  · exact (Lib.bitLenAux_bounds 64 x hx (by omega)).2.2

theorem ones_bd {A d : Nat} (hA : A < 2 ^ d) (hd : d ≤ 128) : ∃ g : Nat, rt A ≤ g ∧ g < 18446744073709551616 ∧ ones d = g := by
  refine ⟨2 ^ ((d + 1) / 2) - 1, ones_ge hA, ?_, ones_eq d hd⟩
  have hq : 2 ^ ((d + 1) / 2) ≤ 2 ^ 64 := Nat.pow_le_pow_right (by omega) (by omega)
  have hp : 0 < 2 ^ ((d + 1) / 2) := Nat.pow_pos (by omega)
  omega
end Go.Proofs.Ytfgkndfcddnhlaa
