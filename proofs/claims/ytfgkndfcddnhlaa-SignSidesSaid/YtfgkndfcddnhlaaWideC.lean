/- What the program's own wide numbers answer: Div. -/
import Derived.Test.YtfgkndfcddnhlaaWideB
import Derived.Test.YtfgkndfcddnhlaaDivTwo
namespace Go.Proofs.Ytfgkndfcddnhlaa
open Go.RowKit
set_option linter.unusedVariables false
set_option maxHeartbeats 400000

theorem two_digits (U l1 l0 Y D1 V D2 Q N t y : Int) (h1 : D1 = (U * 4294967296 + l1) / Y) (h2 : V = (U * 4294967296 + l1) % Y) (h3 : D2 = (V * 4294967296 + l0) / Y) (hY : 0 < Y)
    (hN : U * 18446744073709551616 + (l1 * 4294967296 + l0) = N * t) (l0b : 0 ≤ l0) : D1 * 4294967296 + D2 = N * t / Y ∧ (V * 4294967296 + l0) % Y = N * t % Y := by
  have e1 := Int.mul_ediv_add_emod (U * 4294967296 + l1) Y
  rw [← h1, ← h2] at e1
  have e : N * t = V * 4294967296 + l0 + Y * (D1 * 4294967296) := by
    rw [← hN, ← Int.mul_assoc]; omega
  rw [e, Int.add_mul_ediv_left _ _ (by omega), Int.add_mul_emod_self_left, ← h3]
  omega

/-- The quotient of the high word, rounded down. -/
theorem floor_parts (a b : Int) (hb : 1 ≤ b) : (a.tmod b < 0 ∧ a / b = a.tdiv b - 1 ∧ a % b = a.tmod b + b) ∨ (0 ≤ a.tmod b ∧ a / b = a.tdiv b ∧ a % b = a.tmod b) := by
  have e := Int.mul_tdiv_add_tmod a b
  have n := Int.natAbs_tmod a b
  have l : (a.natAbs % b.natAbs) < b.natAbs := Nat.mod_lt _ (by omega)
  by_cases h : a.tmod b < 0
  · refine .inl ⟨h, ?_⟩
    refine (Int.ediv_emod_unique (by omega)).2 ⟨?_, by omega, by omega⟩
    rw [Int.mul_sub]; omega
  · refine .inr ⟨by omega, ?_⟩
    exact (Int.ediv_emod_unique (by omega)).2 ⟨by omega, by omega, by omega⟩

theorem tdiv_in (a b : Int) (ha : -9223372036854775808 ≤ a ∧ a ≤ 9223372036854775807) (hb : 1 ≤ b) : -9223372036854775808 ≤ a.tdiv b ∧ a.tdiv b ≤ 9223372036854775807 := by
  by_cases h : 0 ≤ a
  · rw [Int.tdiv_eq_ediv_of_nonneg h]
    have := IntWalk.tdiv_le a b h hb
    omega
  · have e : a.tdiv b = -((-a).tdiv b) := by rw [Int.neg_tdiv]; omega
    rw [e, Int.tdiv_eq_ediv_of_nonneg (by omega)]
    have := IntWalk.tdiv_le (-a) b (by omega) hb
    omega

theorem div_words (a b : Int) (ia : In a) (hb : 1 ≤ b ∧ b ≤ 9223372036854775807) :
    hi (a / b) = hi a / b ∧ lo (a / b) = (hi a % b * 18446744073709551616 + lo a) / b ∧ a % b = (hi a % b * 18446744073709551616 + lo a) % b := by
  have s := split_in a ia
  have ha := hi_bd a
  have la := lo_bd a
  generalize hi a = x at *
  generalize lo a = y at *
  have e := Int.mul_ediv_add_emod x b
  have m0 := Int.emod_nonneg x (b := b) (by omega)
  have m1 := Int.emod_lt_of_pos x (b := b) (by omega)
  have d : a / b = x / b * 18446744073709551616 + (x % b * 18446744073709551616 + y) / b ∧ a % b = (x % b * 18446744073709551616 + y) % b := by
    have e2 : a = x % b * 18446744073709551616 + y + b * (x / b * 18446744073709551616) := by
      rw [s, ← Int.mul_assoc]; omega
    rw [e2, Int.add_mul_ediv_left _ _ (by omega), Int.add_mul_emod_self_left]
    omega
  have u0 : 0 ≤ (x % b * 18446744073709551616 + y) / b := Int.ediv_nonneg (by omega) (by omega)
  have u1 : (x % b * 18446744073709551616 + y) / b < 18446744073709551616 := by
    refine Int.ediv_lt_of_lt_mul (by omega) ?_
    omega
  have q : -9223372036854775808 ≤ x / b ∧ x / b ≤ 9223372036854775807 := by
    refine ⟨(Int.le_ediv_iff_mul_le (by omega)).2 (by omega), ?_⟩
    have := Int.ediv_lt_of_lt_mul (a := x) (b := 9223372036854775808) (c := b) (by omega) (by omega)
    omega
  rw [d.1]
  exact ⟨hi_mk _ _ q ⟨u0, by omega⟩, lo_mk _ _ ⟨u0, by omega⟩, d.2⟩

end Go.Proofs.Ytfgkndfcddnhlaa
