/- The school division of two words by one, by halves: plain facts. -/
import Derived.Test.YtfgkndfcddnhlaaNum
import Derived.Lib.Mul64
import Derived.Laws.Bits64
namespace Go.Proofs.Ytfgkndfcddnhlaa.Kn
open Go.RowKit

theorem mul_le {a b c : Int} (h : a ≤ b) (hc : 0 ≤ c) : a * c ≤ b * c := Int.mul_le_mul_of_nonneg_right h hc
theorem le_div {a b c : Int} (hc : 0 < c) (h : a * c ≤ b) : a ≤ b / c := (Int.le_ediv_iff_mul_le hc).2 h
theorem div_le {a b c : Int} (hc : 0 < c) (h : b < (a + 1) * c) : b / c ≤ a := by
  have := Int.ediv_lt_of_lt_mul hc h
  omega

/-- u, u1: the dividend's upper part and its next half; y1, y0: the divisor's halves. -/
structure Ok (u u1 y1 y0 : Int) : Prop where
  y1l : 2147483648 ≤ y1
  y1u : y1 < 4294967296
  y0l : 0 ≤ y0
  y0u : y0 < 4294967296
  u1l : 0 ≤ u1
  u1u : u1 < 4294967296
  ul : 0 ≤ u
  uu : u < y1 * 4294967296 + y0

/-- The quotient's digit. -/
def dig (u u1 y1 y0 : Int) : Int := (u * 4294967296 + u1) / (y1 * 4294967296 + y0)

structure Inv (u u1 y1 y0 q r : Int) : Prop where
  ql : 0 ≤ q
  rl : 0 ≤ r
  ru : r < 4294967296
  sum : q * y1 + r = u
  hat : dig u u1 y1 y0 ≤ q

variable {u u1 y1 y0 q r : Int}

theorem dig_mul (h : Ok u u1 y1 y0) : dig u u1 y1 y0 * (y1 * 4294967296 + y0) ≤ u * 4294967296 + u1 := by
  unfold dig
  exact Int.ediv_mul_le _ (by have := h.y1l; have := h.y0l; omega)
theorem dig_nonneg (h : Ok u u1 y1 y0) : 0 ≤ dig u u1 y1 y0 := by
  unfold dig
  exact Int.ediv_nonneg (by have := h.ul; have := h.u1l; omega) (by have := h.y1l; have := h.y0l; omega)
theorem dig_lt (h : Ok u u1 y1 y0) : dig u u1 y1 y0 < 4294967296 := by
  unfold dig
  refine Int.ediv_lt_of_lt_mul (by have := h.y1l; have := h.y0l; omega) ?_
  have := h.uu; have := h.u1u; omega
/-- A digit that goes into the dividend is at most the true one. -/
theorem le_dig (h : Ok u u1 y1 y0) (hq : q * (y1 * 4294967296 + y0) ≤ u * 4294967296 + u1) : q ≤ dig u u1 y1 y0 :=
  le_div (by have := h.y1l; have := h.y0l; omega) hq
theorem split_mul (q y1 y0 : Int) : q * (y1 * 4294967296 + y0) = q * y1 * 4294967296 + q * y0 := by
  rw [Int.mul_add, Int.mul_assoc]

theorem start (h : Ok u u1 y1 y0) : Inv u u1 y1 y0 (u / y1) (u - u / y1 * y1) := by
  have h1 := h.y1l
  have e := Int.mul_ediv_add_emod u y1
  have l1 := Int.emod_nonneg u (b := y1) (by omega)
  have l2 := Int.emod_lt_of_pos u (b := y1) (by omega)
  have e2 : u / y1 * y1 = y1 * (u / y1) := Int.mul_comm _ _
  refine ⟨Int.ediv_nonneg h.ul (by omega), by omega, by have := h.y1u; omega, by omega, ?_⟩
  refine le_div (by omega) ?_
  have d := dig_mul h
  have d0 := dig_nonneg h
  rw [split_mul] at d
  have p : 0 ≤ dig u u1 y1 y0 * y0 := Int.mul_nonneg d0 h.y0l
  have := h.u1u
  omega

/-- The tests say that the digit fits. -/
theorem done (h : Ok u u1 y1 y0) (i : Inv u u1 y1 y0 q r) (ht : q * y0 ≤ 4294967296 * r + u1) : q = dig u u1 y1 y0 := by
  have h1 := i.hat
  have h2 := le_dig (q := q) h (by rw [split_mul]; have := i.sum; omega)
  omega

theorem prod_bd (h : Ok u u1 y1 y0) (i : Inv u u1 y1 y0 q r) (hq : q < 4294967296) : 0 ≤ q * y0 ∧ q * y0 ≤ 18446744073709551615 := by
  refine ⟨Int.mul_nonneg i.ql h.y0l, ?_⟩
  have a := mul_le (a := q) (b := 4294967295) (c := y0) (by omega) h.y0l
  have := h.y0u
  omega

/-- They say that it is too great. -/
theorem step (h : Ok u u1 y1 y0) (i : Inv u u1 y1 y0 q r) (ht : 4294967296 ≤ q ∨ 4294967296 * r + u1 < q * y0) : 1 ≤ q ∧ dig u u1 y1 y0 ≤ q - 1 ∧ (q - 1) * y1 + (r + y1) = u := by
  have s := i.sum
  have d := dig_lt h
  have d0 := dig_nonneg h
  have k : dig u u1 y1 y0 < q := by
    rcases ht with ht | ht
    · omega
    · have i1 := i.hat
      refine Int.lt_iff_le_and_ne.2 ⟨i1, fun e => ?_⟩
      have m := dig_mul h
      rw [e, split_mul] at m
      omega
  refine ⟨by omega, by omega, ?_⟩
  rw [Int.sub_mul]; omega
theorem more (h : Ok u u1 y1 y0) (i : Inv u u1 y1 y0 q r) (ht : 4294967296 ≤ q ∨ 4294967296 * r + u1 < q * y0) (hr : r + y1 < 4294967296) : Inv u u1 y1 y0 (q - 1) (r + y1) := by
  obtain ⟨a, b, c⟩ := step h i ht
  have := i.rl; have := h.y1l
  exact ⟨by omega, by omega, hr, c, b⟩
theorem broke (h : Ok u u1 y1 y0) (i : Inv u u1 y1 y0 q r) (ht : 4294967296 ≤ q ∨ 4294967296 * r + u1 < q * y0) (hr : 4294967296 ≤ r + y1) : q - 1 = dig u u1 y1 y0 := by
  obtain ⟨a, b, c⟩ := step h i ht
  have := h.uu; have := h.y0u; have := h.y1l; have := h.y0l; have := h.u1l
  have k : q - 1 < 4294967296 := by
    refine Int.lt_of_not_ge (fun g => ?_)
    have m := mul_le (a := 4294967296) (b := q - 1) (c := y1) g (by omega)
    omega
  have z := le_dig (q := q - 1) h (by
    rw [split_mul]
    have m := mul_le (a := q - 1) (b := 4294967295) (c := y0) (by omega) (by omega)
    omega)
  omega
theorem q_bd (h : Ok u u1 y1 y0) (i : Inv u u1 y1 y0 q r) : q ≤ 18446744073709551615 := by
  refine Int.le_of_not_gt (fun g => ?_)
  have m := mul_le (a := 18446744073709551616) (b := q) (c := y1) (by omega) (by have := h.y1l; omega)
  have := i.sum; have := h.uu; have := h.y0u; have := i.rl; have := h.y1l; have := h.y1u
  omega
/-- What is left behind a digit. -/
theorem left (h : Ok u u1 y1 y0) (hq : q = dig u u1 y1 y0) (Y : Int) (hY : Y = y1 * 4294967296 + y0) :
    IntKind.u64.wrap (IntKind.u64.wrap (IntKind.u64.wrap (u * 4294967296) + u1) - IntKind.u64.wrap (q * Y)) = (u * 4294967296 + u1) % Y := by
  subst hY
  have e := Int.mul_ediv_add_emod (u * 4294967296 + u1) (y1 * 4294967296 + y0)
  have l1 := Int.emod_nonneg (u * 4294967296 + u1) (b := y1 * 4294967296 + y0) (by have := h.y1l; have := h.y0l; omega)
  have l2 := Int.emod_lt_of_pos (u * 4294967296 + u1) (b := y1 * 4294967296 + y0) (by have := h.y1l; have := h.y0l; omega)
  have := h.y1u; have := h.y0u
  rw [hq]
  have e2 : dig u u1 y1 y0 * (y1 * 4294967296 + y0) = (y1 * 4294967296 + y0) * ((u * 4294967296 + u1) / (y1 * 4294967296 + y0)) := by unfold dig; exact Int.mul_comm _ _
  rw [e2]
  simp only [IntKind.wrap_u64]
  generalize (y1 * 4294967296 + y0) * ((u * 4294967296 + u1) / (y1 * 4294967296 + y0)) = t at *
  generalize (u * 4294967296 + u1) % (y1 * 4294967296 + y0) = m at *
  omega
/-- The ways of a round: two go on, three end. -/
theorem ways (h : Ok u u1 y1 y0) (i : Inv u u1 y1 y0 q r) (D : Int) (hD : dig u u1 y1 y0 = D) :
    (4294967296 ≤ q ∧ r + y1 < 4294967296) ∨
    ((q < 4294967296 ∧ 1 ≤ q ∧ 0 ≤ q * y0 ∧ q * y0 ≤ 18446744073709551615) ∧ (decide (4294967296 ≤ q) = false ∧ decide (4294967296 * r + u1 < q * y0) = true) ∧ 4294967296 * r + u1 < q * y0 ∧ r + y1 < 4294967296) ∨
    (4294967296 ≤ q ∧ 4294967296 ≤ r + y1 ∧ q - 1 = D) ∨
    ((q < 4294967296 ∧ 1 ≤ q ∧ 0 ≤ q * y0 ∧ q * y0 ≤ 18446744073709551615) ∧ (decide (4294967296 ≤ q) = false ∧ decide (4294967296 * r + u1 < q * y0) = true) ∧ 4294967296 * r + u1 < q * y0 ∧ 4294967296 ≤ r + y1 ∧ q - 1 = D) ∨
    ((q < 4294967296 ∧ 0 ≤ q * y0 ∧ q * y0 ≤ 18446744073709551615) ∧ (decide (4294967296 ≤ q) = false ∧ decide (4294967296 * r + u1 < q * y0) = false) ∧ q * y0 ≤ 4294967296 * r + u1 ∧ q = D) := by
  subst hD
  by_cases c1 : 4294967296 ≤ q
  · by_cases c2 : r + y1 < 4294967296
    · exact .inl ⟨c1, c2⟩
    · exact .inr (.inr (.inl ⟨c1, by omega, broke h i (.inl c1) (by omega)⟩))
  · obtain ⟨pl, pu⟩ := prod_bd h i (by omega)
    have b1 : decide (4294967296 ≤ q) = false := by simp; omega
    by_cases c3 : 4294967296 * r + u1 < q * y0
    · have := (step h i (.inr c3)).1
      have b2 : decide (4294967296 * r + u1 < q * y0) = true := by simp; omega
      by_cases c2 : r + y1 < 4294967296
      · exact .inr (.inl ⟨⟨by omega, this, pl, pu⟩, ⟨b1, b2⟩, c3, c2⟩)
      · exact .inr (.inr (.inr (.inl ⟨⟨by omega, this, pl, pu⟩, ⟨b1, b2⟩, c3, by omega, broke h i (.inr c3) (by omega)⟩)))
    · have b2 : decide (4294967296 * r + u1 < q * y0) = false := by simp; omega
      exact .inr (.inr (.inr (.inr ⟨⟨by omega, pl, pu⟩, ⟨b1, b2⟩, by omega, done h i (by omega)⟩)))
end Go.Proofs.Ytfgkndfcddnhlaa.Kn
