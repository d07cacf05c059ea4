/- Newton's guesses at a square root, and bits: plain facts. -/
import Derived.Test.YtfgkndfcddnhlaaRootNum
import Derived.Lib.ItoaNum
namespace Go.Proofs.Ytfgkndfcddnhlaa
open Go.RowKit
set_option linter.unusedVariables false

theorem and_xor (n : Nat) : ∀ a b : Nat, a < 2 ^ n → b < 2 ^ n → 2 * (a &&& b) + (a ^^^ b) = a + b := by
  induction n with
  | zero => intro a b ha hb; obtain rfl : a = 0 := by omega
            obtain rfl : b = 0 := by omega
            decide
  | succ n ih =>
    intro a b ha hb
    rw [Nat.pow_succ] at ha hb
    have h := ih (a / 2) (b / 2) (by omega) (by omega)
    rw [← Nat.and_div_two, ← Nat.xor_div_two] at h
    have m1 : (a &&& b) % 2 = if a % 2 = 1 ∧ b % 2 = 1 then 1 else 0 := by
      have e := Nat.and_mod_two_pow (a := a) (b := b) (n := 1)
      rw [Nat.pow_one] at e
      rw [e]
      rcases Nat.mod_two_eq_zero_or_one a with h1 | h1 <;> rcases Nat.mod_two_eq_zero_or_one b with h2 | h2 <;> rw [h1, h2] <;> rfl
    have m2 : (a ^^^ b) % 2 = if a % 2 = b % 2 then 0 else 1 := by
      have e := Nat.xor_mod_two_pow (a := a) (b := b) (n := 1)
      rw [Nat.pow_one] at e
      rw [e]
      rcases Nat.mod_two_eq_zero_or_one a with h1 | h1 <;> rcases Nat.mod_two_eq_zero_or_one b with h2 | h2 <;> rw [h1, h2] <;> rfl
    generalize a &&& b = x at *
    generalize a ^^^ b = y at *
    by_cases c : a % 2 = 1 ∧ b % 2 = 1
    · rw [if_pos c] at m1
      rw [if_pos (by omega)] at m2
      omega
    · rw [if_neg c] at m1
      by_cases d : a % 2 = b % 2
      · rw [if_pos d] at m2; omega
      · rw [if_neg d] at m2; omega

/-- A guess from above never falls below the root. -/
theorem newton_ge {A g : Nat} (h : rt A ≤ g) : rt A ≤ (g + A / g) / 2 := by
  obtain ⟨r, hr⟩ : ∃ r, rt A = r := ⟨_, rfl⟩
  have s := (rt_spec A).1
  rw [hr] at h s ⊢
  rcases Nat.eq_zero_or_pos g with h0 | h0
  · rw [show r = 0 from by omega]; exact Nat.zero_le _
  · refine Nat.le_of_not_lt (fun lt => ?_)
    have q := Nat.div_add_mod A g
    have m := Nat.mod_lt A h0
    generalize A / g = d at *
    have h1 : d + 1 ≤ 2 * r - g := by omega
    have h2 := Nat.mul_le_mul_left g h1
    obtain ⟨t, rfl⟩ : ∃ t, g = r + t := ⟨g - r, by omega⟩
    obtain ⟨u, hu⟩ : ∃ u, r = t + u := ⟨r - t, by omega⟩
    subst hu
    rw [show 2 * (t + u) - (t + u + t) = u from by omega] at h2
    rw [Nat.mul_add, Nat.mul_one] at h2
    have e : (t + u + t) * u + t * t = (t + u) * (t + u) := by
      rw [Nat.add_mul, Nat.add_mul, Nat.mul_add, Nat.add_mul, Nat.add_mul]
      have := Nat.mul_comm t u
      omega
    omega
/-- A guess that does not fall is the root. -/
theorem newton_stop {A g : Nat} (h0 : 0 < g) (h : rt A ≤ g) (hs : g ≤ (g + A / g) / 2) : g = rt A := by
  have h1 : g ≤ A / g := by omega
  have h2 : g * g ≤ A := (Nat.le_div_iff_mul_le h0).1 h1
  have := (le_rt g A).1 h2
  omega
theorem rt_pos {A : Nat} (h : 0 < A) : 0 < rt A := (le_rt 1 A).1 (by omega)
theorem hi_lt_rt {A : Nat} (h0 : 0 < A) (h : A < 170141183460469231731687303715884105728) : A / 18446744073709551616 < rt A := by
  obtain ⟨q, hq⟩ : ∃ q, A / 18446744073709551616 = q := ⟨_, rfl⟩
  rw [hq]
  rcases Nat.eq_zero_or_pos q with c | c
  · subst c; exact rt_pos h0
  · refine (le_rt (q + 1) A).1 ?_
    have h1 : q + 1 ≤ 9223372036854775808 := by omega
    have h2 := Nat.mul_le_mul (Nat.le_refl (q + 1)) h1
    omega
/-- All ones, in half as many digits, are not below the root. -/
theorem ones_ge {A d : Nat} (h : A < 2 ^ d) : rt A ≤ 2 ^ ((d + 1) / 2) - 1 := by
  have hp : 0 < 2 ^ ((d + 1) / 2) := Nat.pow_pos (by omega)
  have : rt A < 2 ^ ((d + 1) / 2) := rt_lt (Nat.lt_of_lt_of_le h (by rw [← Nat.pow_add]; exact Nat.pow_le_pow_right (by omega) (by omega)))
  omega
end Go.Proofs.Ytfgkndfcddnhlaa
