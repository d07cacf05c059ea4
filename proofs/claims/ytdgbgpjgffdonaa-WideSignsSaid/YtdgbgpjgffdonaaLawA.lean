/- The small case that all statements of layer 1 show. -/
import Derived.Test.YtdgbgpjgffdonaaWideC
namespace Go.Proofs.Ytdgbgpjgffdonaa
open Go.RowKit
set_option linter.unusedVariables false
set_option maxHeartbeats 1000000

theorem shown_any (w : World) :
    Calls Try.prog 21 #[] w fun e w' => e = .returned (.bool true) ∧ Below w.heap.size w w' := by
  have n1 : narrowV (-4) = .tuple #[.int .i64 (-4), .bool true] := rfl
  have n2 : hi 18446744073709551614 = 0 := by unfold hi; omega
  have n3 : lo 18446744073709551614 = 18446744073709551614 := by unfold lo; omega
  have n4 : cmpN (-1) 1 = -1 := rfl
  go_enter Try.func21, Try.ntmps21
  go_wp2_with fail
  refine (of_any _ _ (by omega)).mono ?_
  rintro e w1 ⟨rfl, h1⟩
  go_wp2_with fail
  refine (div_any (-7) 2 _ (by unfold In; omega) (by omega)).mono ?_
  rintro e w2 ⟨rfl, h2⟩
  go_wp2_with fail
  have hz : w2.heap.size ≤ w2.heap.size := Nat.le_refl _
  refine (narrow_any (-4) _ (by unfold In; omega)).mono ?_
  rintro e w3 ⟨rfl, h3⟩
  rw [n1]
  go_wp2_with fail
  refine (mul_any 9223372036854775807 2 _ (by omega) (by omega)).mono ?_
  rintro e w4 ⟨rfl, h4⟩
  go_wp2_with fail
  refine (of_any (-1) _ (by omega)).mono ?_
  rintro e w5 ⟨rfl, h5⟩
  go_wp2_with fail
  refine (of_any 1 _ (by omega)).mono ?_
  rintro e w6 ⟨rfl, h6⟩
  go_wp2_with fail
  refine (cmp_any (-1) 1 _ (by unfold In; omega) (by unfold In; omega)).mono ?_
  rintro e w7 ⟨rfl, h7⟩
  rw [n4]
  go_wp2
  go_ret
  refine ⟨rfl, ?_⟩
  have s1 := h1.size
  have s2 := h2.size
  have s3 := h3.size
  have s4 := h4.size
  have s5 := h5.size
  have s6 := h6.size
  simp at s3
  exact (((((((h1.trans (h2.mono s1)).alloc (by omega) _).trans (h3.mono (by simp; omega))).trans (h4.mono (by omega))).trans (h5.mono (by omega))).trans (h6.mono (by omega))).trans (h7.mono (by omega)))

theorem mul_add_mul (a b c : Int) : a * c + b * c = (a + b) * c := (Int.add_mul _ _ _).symm
theorem mul_neg_self (a c : Int) : a * c + -a * c = 0 := by rw [Int.neg_mul]; omega

theorem walk_WideMul (a b c : Int) (w : World) (ha : -2147483648 ≤ a ∧ a ≤ 2147483647) (hb : -2147483648 ≤ b ∧ b ≤ 2147483647) (hc : -9223372036854775808 ≤ c ∧ c ≤ 9223372036854775807) :
    Calls Try.prog 7 #[.int .i32 a, .int .i32 b, .int .i64 c] w fun e w' => e = .returned (.bool true) ∧ Below w.heap.size w w' := by
  have n1 : c * a = a * c := Int.mul_comm _ _
  have n2 := hi_0
  have n3 := lo_0
  go_enter Try.func7, Try.ntmps7
  go_wp2_with fail
  refine (mul_any a c _ (by omega) hc).mono ?_
  rintro e w1 ⟨rfl, h1⟩
  go_wp2_with fail
  refine (mul_any c a _ hc (by omega)).mono ?_
  rintro e w2 ⟨rfl, h2⟩
  rw [n1]
  go_wp2_with fail
  refine (mul_any a c _ (by omega) hc).mono ?_
  rintro e w3 ⟨rfl, h3⟩
  go_wp2_with fail
  refine (mul_any b c _ (by omega) hc).mono ?_
  rintro e w4 ⟨rfl, h4⟩
  go_wp2_with fail
  refine (add_any (a * c) (b * c) _).mono ?_
  rintro e w5 ⟨rfl, h5⟩
  rw [mul_add_mul]
  go_wp2_with fail
  refine (mul_any (a + b) c _ (by omega) hc).mono ?_
  rintro e w6 ⟨rfl, h6⟩
  go_wp2_with fail
  refine (mul_any a c _ (by omega) hc).mono ?_
  rintro e w7 ⟨rfl, h7⟩
  go_wp2_with fail
  refine (mul_any (-a) c _ (by omega) hc).mono ?_
  rintro e w8 ⟨rfl, h8⟩
  go_wp2_with fail
  refine (add_any (a * c) (-a * c) _).mono ?_
  rintro e w9 ⟨rfl, h9⟩
  rw [mul_neg_self]
  go_wp2_with fail
  refine (mul_any a 1 _ (by omega) (by omega)).mono ?_
  rintro e w10 ⟨rfl, h10⟩
  rw [Int.mul_one]
  go_wp2_with fail
  refine (of_any a _ (by omega)).mono ?_
  rintro e w11 ⟨rfl, h11⟩
  go_wp2_with fail
  refine (shown_any _).mono ?_
  rintro e w12 ⟨rfl, h12⟩
  go_wp2
  go_ret
  refine ⟨rfl, ?_⟩
  have s1 := h1.size; have s2 := h2.size; have s3 := h3.size; have s4 := h4.size; have s5 := h5.size; have s6 := h6.size
  have s7 := h7.size; have s8 := h8.size; have s9 := h9.size; have s10 := h10.size; have s11 := h11.size
  exact (((((((((((h1.trans (h2.mono s1)).trans (h3.mono (by omega))).trans (h4.mono (by omega))).trans (h5.mono (by omega))).trans (h6.mono (by omega))).trans (h7.mono (by omega))).trans (h8.mono (by omega))).trans (h9.mono (by omega))).trans (h10.mono (by omega))).trans (h11.mono (by omega))).trans (h12.mono (by omega)))
end Go.Proofs.Ytdgbgpjgffdonaa
