/- On the way from one number to another one, and lengths: plain facts. -/
import Derived.Test.YtmdhlkdeadfgdaaRef4
namespace Go.Proofs.Ytmdhlkdeadfgdaa
open Go.RowKit
set_option linter.unusedVariables false
set_option linter.unusedSimpArgs false
set_option maxHeartbeats 1000000

theorem nearQ_0 (m : Int) (hm : 1 ≤ m) : nearQ 0 m = 0 := by
  have := near_self 0 m hm
  rwa [Int.zero_mul] at this
theorem nearQ_up (a b d : Int) (hb : 1 ≤ b) (h : 0 ≤ a ∧ a ≤ d * b) : 0 ≤ nearQ a b ∧ nearQ a b ≤ d := by
  have r := round_near a b hb
  generalize nearQ a b = q at *
  constructor
  · refine Int.le_of_lt_add_one (Int.lt_of_mul_lt_mul_right (a := b) ?_ (by omega))
    rw [Int.add_mul]; omega
  · refine Int.le_of_lt_add_one (Int.lt_of_mul_lt_mul_right (a := b) ?_ (by omega))
    rw [Int.add_mul]; omega
theorem nearQ_down (a b d : Int) (hb : 1 ≤ b) (h : d * b ≤ a ∧ a ≤ 0) : d ≤ nearQ a b ∧ nearQ a b ≤ 0 := by
  have r := round_near a b hb
  generalize nearQ a b = q at *
  constructor
  · refine Int.le_of_lt_add_one (Int.lt_of_mul_lt_mul_right (a := b) ?_ (by omega))
    rw [Int.add_mul]; omega
  · refine Int.le_of_lt_add_one (Int.lt_of_mul_lt_mul_right (a := b) ?_ (by omega))
    omega
theorem nearQ_add (a b c : Int) (hb : 1 ≤ b) : nearQ (c * b + a) b = c + nearQ a b := by
  unfold nearQ
  rw [Int.add_comm (c * b) a, Int.add_mul_emod_self_right, Int.add_mul_ediv_right _ _ (by omega)]
  split <;> omega
theorem along_0 (x u m : Int) (hm : 1 ≤ m) : alongQ x u 0 m = x := by
  unfold alongQ; rw [if_neg (by omega), Int.mul_zero, nearQ_0 m hm]; omega
theorem along_m (x u m : Int) (hm : 1 ≤ m) : alongQ x u m m = u := by
  unfold alongQ; rw [if_neg (by omega), near_self _ m hm]; omega
theorem along_in (x u i m : Int) (hm : 1 ≤ m) (hi : 0 ≤ i ∧ i ≤ m) : min x u ≤ alongQ x u i m ∧ alongQ x u i m ≤ max x u := by
  unfold alongQ
  rw [if_neg (by omega)]
  by_cases h : x ≤ u
  · have h1 : 0 ≤ (u - x) * i := Int.mul_nonneg (by omega) hi.1
    have h2 : (u - x) * i ≤ (u - x) * m := Int.mul_le_mul_of_nonneg_left hi.2 (by omega)
    have := nearQ_up _ m _ hm ⟨h1, h2⟩
    omega
  · have h1 : (u - x) * i ≤ 0 := by
      have : 0 ≤ (x - u) * i := Int.mul_nonneg (by omega) hi.1
      have e : (u - x) * i = -((x - u) * i) := by rw [← Int.neg_mul]; congr 1; omega
      omega
    have h2 : (u - x) * m ≤ (u - x) * i := by
      have : (x - u) * i ≤ (x - u) * m := Int.mul_le_mul_of_nonneg_left hi.2 (by omega)
      have e : (u - x) * i = -((x - u) * i) := by rw [← Int.neg_mul]; congr 1; omega
      have e2 : (u - x) * m = -((x - u) * m) := by rw [← Int.neg_mul]; congr 1; omega
      omega
    have := nearQ_down _ m _ hm ⟨h2, h1⟩
    omega
theorem along_back (x u i m : Int) (hm : 1 ≤ m) : alongQ u x (m - i) m = alongQ x u i m := by
  unfold alongQ
  rw [if_neg (by omega), if_neg (by omega)]
  have e : (x - u) * (m - i) = (x - u) * m + (u - x) * i := by
    rw [Int.mul_sub]
    have : (u - x) * i = -((x - u) * i) := by rw [← Int.neg_mul]; congr 1; omega
    omega
  rw [e, nearQ_add _ m _ hm]; omega
theorem along_shift (x c i m : Int) (hm : 1 ≤ m) : alongQ x (x + c) i m = x + alongQ 0 c i m := by
  unfold alongQ
  rw [if_neg (by omega), if_neg (by omega), show x + c - x = c from by omega, Int.sub_zero]; omega

theorem len_facts (x y : Int) (hx : -1073741824 ≤ x ∧ x ≤ 1073741824) (hy : -1073741824 ≤ y ∧ y ≤ 1073741824) :
    lenN x y * lenN x y ≤ (x * x + y * y).toNat ∧ (x * x + y * y).toNat < (lenN x y + 1) * (lenN x y + 1) ∧ lenN x y ≤ x.natAbs + y.natAbs ∧ x.natAbs ≤ lenN x y ∧ y.natAbs ≤ lenN x y := by
  have s := rt_spec (x * x + y * y).toNat
  have ex : x * x = ((x.natAbs * x.natAbs : Nat) : Int) := Int.natAbs_mul_self.symm
  have ey : y * y = ((y.natAbs * y.natAbs : Nat) : Int) := Int.natAbs_mul_self.symm
  have en : (x * x + y * y).toNat = x.natAbs * x.natAbs + y.natAbs * y.natAbs := by rw [ex, ey]; omega
  refine ⟨s.1, s.2, ?_, ?_, ?_⟩
  · unfold lenN
    refine Nat.le_of_lt_succ (rt_lt ?_)
    rw [en]
    generalize x.natAbs = X
    generalize y.natAbs = Y
    have e : (X + Y).succ * (X + Y).succ = X * X + Y * Y + (X * Y + Y * X) + (X + Y) + (X + Y) + 1 := by
      rw [Nat.succ_mul, Nat.mul_succ, Nat.add_mul, Nat.mul_add, Nat.mul_add]; omega
    rw [e]
    have := Nat.zero_le (X * Y + Y * X)
    omega
  · unfold lenN; refine (le_rt _ _).1 ?_; rw [en]; omega
  · unfold lenN; refine (le_rt _ _).1 ?_; rw [en]; omega
theorem len_neg (x y : Int) : lenN (-x) (-y) = lenN x y := by unfold lenN; rw [Int.neg_mul_neg, Int.neg_mul_neg]
end Go.Proofs.Ytmdhlkdeadfgdaa
