/- What the program's own wide numbers answer: Mul, Div. -/
import Derived.Test.YtlgfnhapjhoelaaWideA
import Derived.Test.YtlgfnhapjhoelaaDivNum
import Derived.Test.YtlgfnhapjhoelaaShelf
namespace Go.Proofs.Ytlgfnhapjhoelaa
open Go.RowKit
set_option linter.unusedVariables false
set_option maxHeartbeats 400000

theorem mul64_any (x y : Int) (w : World) (hx : 0 ≤ x ∧ x ≤ 18446744073709551615) (hy : 0 ≤ y ∧ y ≤ 18446744073709551615) :
    Calls Try.prog 60 #[.int .u64 x, .int .u64 y] w fun e w' => e = .returned (.tuple #[.int .u64 (x * y / 18446744073709551616), .int .u64 (x * y % 18446744073709551616)]) ∧ w = w' := by
  obtain ⟨x, rfl⟩ := Int.eq_ofNat_of_zero_le hx.1
  obtain ⟨y, rfl⟩ := Int.eq_ofNat_of_zero_le hy.1
  refine (Try.bits_Mul64 x y (by omega) (by omega) w).mono ?_
  rintro e w' ⟨rfl, rfl⟩
  refine ⟨?_, rfl⟩
  rw [Int.natCast_ediv, Int.natCast_emod, Int.natCast_mul]
  rfl

/-- A word's sign, laid over another word. -/
def msk (a b : Int) : Int := if a < 0 then b else 0
theorem and_neg1 (b : Int) (hb : -9223372036854775808 ≤ b ∧ b ≤ 9223372036854775807) : bits .and .i64 (-1) b = b := by
  show IntKind.i64.wrap ((BitVec.ofInt 64 (-1) &&& BitVec.ofInt 64 b).toNat : Nat) = b
  have : BitVec.ofInt 64 (-1) = BitVec.allOnes 64 := by decide
  rw [this, BitVec.allOnes_and, BitVec.toNat_ofInt, IntKind.wrap_i64]
  omega
theorem and_0 (b : Int) : bits .and .i64 0 b = 0 := by
  show IntKind.i64.wrap ((BitVec.ofInt 64 0 &&& BitVec.ofInt 64 b).toNat : Nat) = 0
  have : BitVec.ofInt 64 0 = 0#64 := by decide
  rw [this, BitVec.zero_and]
  decide
theorem and_sign (a b : Int) (ha : -9223372036854775808 ≤ a ∧ a ≤ 9223372036854775807) (hb : -9223372036854775808 ≤ b ∧ b ≤ 9223372036854775807) : bits .and .i64 (hi a) b = msk a b := by
  unfold msk
  rw [hi_of a ha]
  split
  · exact and_neg1 b hb
  · exact and_0 b

theorem mul_words (a b : Int) (ha : -9223372036854775808 ≤ a ∧ a ≤ 9223372036854775807) (hb : -9223372036854775808 ≤ b ∧ b ≤ 9223372036854775807) :
    wrap64 (IntKind.u64.wrap (IntKind.u64.wrap (IntKind.u64.wrap a * IntKind.u64.wrap b / 18446744073709551616 - IntKind.u64.wrap (msk a b)) - IntKind.u64.wrap (msk b a))) = hi (a * b) ∧
    IntKind.u64.wrap a * IntKind.u64.wrap b % 18446744073709551616 = lo (a * b) := by
  have ea : IntKind.u64.wrap a = a + (if a < 0 then 18446744073709551616 else 0) := by rw [IntKind.wrap_u64]; split <;> omega
  have eb : IntKind.u64.wrap b = b + (if b < 0 then 18446744073709551616 else 0) := by rw [IntKind.wrap_u64]; split <;> omega
  have e1 : IntKind.u64.wrap (msk a b) = msk a b % 18446744073709551616 := by rw [IntKind.wrap_u64]
  have e2 : IntKind.u64.wrap (msk b a) = msk b a % 18446744073709551616 := by rw [IntKind.wrap_u64]
  rw [ea, eb, e1, e2]
  simp only [IntKind.wrap_u64]
  unfold msk hi lo wrap64
  by_cases h1 : a < 0
  · by_cases h2 : b < 0
    · rw [if_pos h1, if_pos h2, if_pos h1, if_pos h2]
      have e : (a + 18446744073709551616) * (b + 18446744073709551616) = a * b + (a + b) * 18446744073709551616 + 18446744073709551616 * 18446744073709551616 := by
        rw [Int.add_mul, Int.mul_add, Int.mul_add, Int.add_mul]; omega
      rw [e]; generalize a * b = p; omega
    · rw [if_pos h1, if_neg h2, if_pos h1, if_neg h2]
      have e : (a + 18446744073709551616) * (b + 0) = a * b + b * 18446744073709551616 := by rw [Int.add_zero, Int.add_mul]; omega
      rw [e]; generalize a * b = p; omega
  · by_cases h2 : b < 0
    · rw [if_neg h1, if_pos h2, if_neg h1, if_pos h2]
      have e : (a + 0) * (b + 18446744073709551616) = a * b + a * 18446744073709551616 := by rw [Int.add_zero, Int.mul_add]
      rw [e]; generalize a * b = p; omega
    · rw [if_neg h1, if_neg h2, if_neg h1, if_neg h2]
      rw [Int.add_zero, Int.add_zero]; generalize a * b = p; omega

theorem mul_any (a b : Int) (w : World) (ha : -9223372036854775808 ≤ a ∧ a ≤ 9223372036854775807) (hb : -9223372036854775808 ≤ b ∧ b ≤ 9223372036854775807) :
    Calls Try.prog 58 #[.int .i64 a, .int .i64 b] w fun e w' => e = .returned (W (a * b)) ∧ Below w.heap.size w w' := by
  have ua : 0 ≤ IntKind.u64.wrap a ∧ IntKind.u64.wrap a ≤ 18446744073709551615 := by rw [IntKind.wrap_u64]; omega
  have ub : 0 ≤ IntKind.u64.wrap b ∧ IntKind.u64.wrap b ≤ 18446744073709551615 := by rw [IntKind.wrap_u64]; omega
  have s1 := and_sign a b ha hb
  have s2 := and_sign b a hb ha
  have Fin := Lib.hid (mul_words a b ha hb)
  go_enter Try.func58, Try.ntmps58
  go_wp2_with fail
  refine (mul64_any _ _ _ ua ub).mono ?_
  rintro e w' ⟨rfl, rfl⟩
  go_wp2_with fail
  refine (signWord_any _ _ ha).mono ?_
  rintro e w' ⟨rfl, rfl⟩
  go_wp2_with fail
  refine (signWord_any _ _ hb).mono ?_
  rintro e w' ⟨rfl, rfl⟩
  go_wp2
  refine bodyPost_ret (by simp [results, Try.results58, go_sem]; rfl) rfl ⟨?_, ?_⟩
  · exact ret_agg2 Fin.out.1 Fin.out.2
  · repeat (first | exact Below.refl _ _ | refine Below.alloc ?_ (by simp; try omega) _)

end Go.Proofs.Ytlgfnhapjhoelaa
