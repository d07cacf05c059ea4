/- Quotients, rounded: plain facts. -/
import Derived.Test.YtfgkndfcddnhlaaRef3
namespace Go.Proofs.Ytfgkndfcddnhlaa
open Go.RowKit
set_option linter.unusedVariables false
set_option linter.unusedSimpArgs false
set_option maxHeartbeats 1000000

theorem floor_near (a b : Int) (hb : 1 ≤ b) : 0 ≤ a - a / b * b ∧ a - a / b * b < b := by
  have h1 := Int.emod_nonneg a (show b ≠ 0 by omega)
  have h2 := Int.emod_lt_of_pos a (show 0 < b by omega)
  have h3 := Int.mul_ediv_add_emod a b
  rw [Int.mul_comm] at h3
  omega
theorem round_near (a b : Int) (hb : 1 ≤ b) : 2 * (nearQ a b * b - a) ≤ b ∧ -b < 2 * (nearQ a b * b - a) := by
  have h1 := Int.emod_nonneg a (show b ≠ 0 by omega)
  have h2 := Int.emod_lt_of_pos a (show 0 < b by omega)
  have h3 := Int.mul_ediv_add_emod a b
  rw [Int.mul_comm] at h3
  unfold nearQ
  split
  · rw [Int.add_mul, Int.one_mul]; omega
  · omega
theorem scaleV_fit (a c q : Int) (hc : 1 ≤ c) (hq : a / c = q) (hb : -9223372036854775808 ≤ q ∧ q ≤ 9223372036854775807) : scaleV a 1 c = .tuple #[.int .i64 q, .int .i64 0] := by
  unfold scaleV; rw [if_neg (by omega), Int.mul_one, hq]; exact full_yes hb
theorem nearV_fit (a c q : Int) (hc : 1 ≤ c) (hq : nearQ a c = q) (hb : -9223372036854775808 ≤ q ∧ q ≤ 9223372036854775807) : nearV a 1 c = .tuple #[.int .i64 q, .int .i64 0] := by
  unfold nearV; rw [if_neg (by omega), Int.mul_one, hq]; exact full_yes hb
theorem quot_small (a b M : Int) (hb : 1 ≤ b) (hM : 0 ≤ M) (ha : -M ≤ a ∧ a ≤ M) : -M ≤ a / b ∧ a / b ≤ M := by
  have h1 : (a / b).natAbs ≤ a.natAbs := Int.natAbs_ediv_le_natAbs _ _
  omega
theorem near_small (a b M : Int) (hb : 1 ≤ b) (hM : 0 ≤ M) (ha : -M ≤ a ∧ a ≤ M) : -M ≤ nearQ a b ∧ nearQ a b ≤ M + 1 := by
  have := quot_small a b M hb hM ha
  unfold nearQ; split <;> omega

theorem near_self (a b : Int) (hb : 1 ≤ b) : nearQ (a * b) b = a := by
  unfold nearQ; rw [Int.mul_emod_left, if_neg (by omega), Int.mul_ediv_cancel a (by omega)]
theorem div_times (a b k : Int) (hk : 1 ≤ k) : a * k / (b * k) = a / b := Int.mul_ediv_mul_of_pos_left a b (by omega)
theorem mod_times (a b k : Int) (hk : 1 ≤ k) : a * k % (b * k) = a % b * k := by
  rw [Int.mul_comm a k, Int.mul_comm b k, Int.mul_emod_mul_of_pos a b (by omega), Int.mul_comm]
theorem near_times (a b k : Int) (hk : 1 ≤ k) : nearQ (a * k) (b * k) = nearQ a b := by
  unfold nearQ
  rw [div_times a b k hk, mod_times a b k hk, ← Int.sub_mul]
  by_cases h : b - a % b ≤ a % b
  · rw [if_pos h, if_pos (Int.mul_le_mul_of_nonneg_right h (by omega))]
  · rw [if_neg h, if_neg (fun g => h (Int.le_of_mul_le_mul_right g (by omega)))]
theorem prod_small (a k : Int) (ha : -2147483648 ≤ a ∧ a ≤ 2147483647) (hk : 0 ≤ k ∧ k ≤ 65535) : -140737488355328 ≤ a * k ∧ a * k ≤ 140737488355328 := by
  have h1 : (a * k).natAbs = a.natAbs * k.natAbs := Int.natAbs_mul a k
  have h2 := Nat.mul_le_mul (show a.natAbs ≤ 2147483648 by omega) (show k.natAbs ≤ 65535 by omega)
  rw [← h1] at h2
  obtain ⟨p, hp⟩ : ∃ p, a * k = p := ⟨_, rfl⟩
  rw [hp] at h2 ⊢
  omega
theorem scaleV_fit' (a b c q : Int) (hc : 1 ≤ c) (hq : a * b / c = q) (hb : -9223372036854775808 ≤ q ∧ q ≤ 9223372036854775807) : scaleV a b c = .tuple #[.int .i64 q, .int .i64 0] := by
  unfold scaleV; rw [if_neg (by omega), hq]; exact full_yes hb
theorem nearV_fit' (a b c q : Int) (hc : 1 ≤ c) (hq : nearQ (a * b) c = q) (hb : -9223372036854775808 ≤ q ∧ q ≤ 9223372036854775807) : nearV a b c = .tuple #[.int .i64 q, .int .i64 0] := by
  unfold nearV; rw [if_neg (by omega), hq]; exact full_yes hb

end Go.Proofs.Ytfgkndfcddnhlaa
