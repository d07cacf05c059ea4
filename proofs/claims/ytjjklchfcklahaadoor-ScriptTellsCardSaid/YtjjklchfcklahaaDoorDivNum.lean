/- The school division of two words by one, by halves: plain facts. -/
import Derived.Test.YtjjklchfcklahaaDoorCorn
import Derived.Lib.Mul64
import Derived.Laws.Bits64
namespace Go.Proofs.YtjjklchfcklahaaDoor.Kn
open Go.RowKit

theorem le_div {a b c : Int} (hc : 0 < c) (h : a * c ≤ b) : a ≤ b / c := (Int.le_ediv_iff_mul_le hc).2 h
/-- u, u1: the dividend's upper part and its next half; y1, y0: the divisor's halves. -/
structure Ok (u u1 y1 y0 : Int) : Prop where
  y1l : 2147483648 ≤ y1
  y1u : y1 < 4294967296
  y0l : 0 ≤ y0
  y0u : y0 < 4294967296
  u1l : 0 ≤ u1
  u1u : u1 < 4294967296
  ul : 0 ≤ u
  uu : u < y1 * 4294967296 + y0

/-- The quotient's digit. -/
def dig (u u1 y1 y0 : Int) : Int := (u * 4294967296 + u1) / (y1 * 4294967296 + y0)

structure Inv (u u1 y1 y0 q r : Int) : Prop where
  ql : 0 ≤ q
  rl : 0 ≤ r
  ru : r < 4294967296
  sum : q * y1 + r = u
  hat : dig u u1 y1 y0 ≤ q

variable {u u1 y1 y0 q r : Int}

theorem dig_mul (h : Ok u u1 y1 y0) : dig u u1 y1 y0 * (y1 * 4294967296 + y0) ≤ u * 4294967296 + u1 := by
  unfold dig
  exact Int.ediv_mul_le _ (by have := h.y1l; have := h.y0l; omega)
theorem dig_nonneg (h : Ok u u1 y1 y0) : 0 ≤ dig u u1 y1 y0 := by
  unfold dig
  exact Int.ediv_nonneg (by have := h.ul; have := h.u1l; omega) (by have := h.y1l; have := h.y0l; omega)
theorem dig_lt (h : Ok u u1 y1 y0) : dig u u1 y1 y0 < 4294967296 := by
  unfold dig
  refine Int.ediv_lt_of_lt_mul (by have := h.y1l; have := h.y0l; omega) ?_
  have := h.uu; have := h.u1u; omega
/-- A digit that goes into the dividend is at most the true one. -/
theorem le_dig (h : Ok u u1 y1 y0) (hq : q * (y1 * 4294967296 + y0) ≤ u * 4294967296 + u1) : q ≤ dig u u1 y1 y0 :=
  le_div (by have := h.y1l; have := h.y0l; omega) hq
theorem split_mul (q y1 y0 : Int) : q * (y1 * 4294967296 + y0) = q * y1 * 4294967296 + q * y0 := by
  rw [Int.mul_add, Int.mul_assoc]

/-- The tests say that the digit fits. -/
theorem done (h : Ok u u1 y1 y0) (i : Inv u u1 y1 y0 q r) (ht : q * y0 ≤ 4294967296 * r + u1) : q = dig u u1 y1 y0 := by
  have h1 := i.hat
  have h2 := le_dig (q := q) h (by rw [split_mul]; have := i.sum; omega)
  omega

/-- They say that it is too great. -/
theorem step (h : Ok u u1 y1 y0) (i : Inv u u1 y1 y0 q r) (ht : 4294967296 ≤ q ∨ 4294967296 * r + u1 < q * y0) : 1 ≤ q ∧ dig u u1 y1 y0 ≤ q - 1 ∧ (q - 1) * y1 + (r + y1) = u := by
  have s := i.sum
  have d := dig_lt h
  have d0 := dig_nonneg h
  have k : dig u u1 y1 y0 < q := by
    rcases ht with ht | ht
    · omega
    · have i1 := i.hat
      refine Int.lt_iff_le_and_ne.2 ⟨i1, fun e => ?_⟩
      have m := dig_mul h
      rw [e, split_mul] at m
      omega
  refine ⟨by omega, by omega, ?_⟩
  rw [Int.sub_mul]; omega
theorem more (h : Ok u u1 y1 y0) (i : Inv u u1 y1 y0 q r) (ht : 4294967296 ≤ q ∨ 4294967296 * r + u1 < q * y0) (hr : r + y1 < 4294967296) : Inv u u1 y1 y0 (q - 1) (r + y1) := by
  obtain ⟨a, b, c⟩ := step h i ht
  have := i.rl; have := h.y1l
  exact ⟨by omega, by omega, hr, c, b⟩
/-- What is left behind a digit. -/
theorem left (h : Ok u u1 y1 y0) (hq : q = dig u u1 y1 y0) (Y : Int) (hY : Y = y1 * 4294967296 + y0) :
    IntKind.u64.wrap (IntKind.u64.wrap (IntKind.u64.wrap (u * 4294967296) + u1) - IntKind.u64.wrap (q * Y)) = (u * 4294967296 + u1) % Y := by
  subst hY
  have e := Int.mul_ediv_add_emod (u * 4294967296 + u1) (y1 * 4294967296 + y0)
  have l1 := Int.emod_nonneg (u * 4294967296 + u1) (b := y1 * 4294967296 + y0) (by have := h.y1l; have := h.y0l; omega)
  have l2 := Int.emod_lt_of_pos (u * 4294967296 + u1) (b := y1 * 4294967296 + y0) (by have := h.y1l; have := h.y0l; omega)
  have := h.y1u; have := h.y0u
  rw [hq]
  have e2 : dig u u1 y1 y0 * (y1 * 4294967296 + y0) = (y1 * 4294967296 + y0) * ((u * 4294967296 + u1) / (y1 * 4294967296 + y0)) := by unfold dig; exact Int.mul_comm _ _
  rw [e2]
  simp only [IntKind.wrap_u64]
  generalize (y1 * 4294967296 + y0) * ((u * 4294967296 + u1) / (y1 * 4294967296 + y0)) = t at *
  generalize (u * 4294967296 + u1) % (y1 * 4294967296 + y0) = m at *
  omega
end Go.Proofs.YtjjklchfcklahaaDoor.Kn
