/- The walks of RootNear, RootSquares. -/
import Derived.Test.YtikochmlfdhfmaaLaw2A
namespace Go.Proofs.Ytikochmlfdhfmaa
open Go.RowKit
set_option linter.unusedVariables false
set_option linter.unusedSimpArgs false
set_option maxHeartbeats 1000000

theorem long_nat (n r : Nat) (w : World) (hn : n < 18446744073709551616) (h : rt n = r) :
    Calls Try.prog 11 #[.agg #[.int .i64 0, .int .u64 n]] w fun e w' => e = .returned (.int .u64 r) ∧ Below w.heap.size w w' := by
  have e1 : (0 : Int) = hi (n : Int) := by unfold hi; omega
  have e2 : (n : Int) = lo (n : Int) := by unfold lo; omega
  have hl := long_any n w (by unfold In; omega)
  unfold W at hl
  rw [← e1, ← e2, Int.toNat_natCast, h] at hl
  exact hl

theorem walk_RootNear (n : Nat) (w : World) (hn : n < 18446744073709551616) :
    Calls Try.prog 4 #[.int .u64 n] w fun e w' => e = .returned (.bool true) ∧ Below w.heap.size w w' := by
  have s := rt_spec n
  have hb := rt_lt (n := n) (b := 4294967296) (by omega)
  obtain ⟨x, hx⟩ : ∃ x, rt n = x := ⟨_, rfl⟩
  rw [hx] at s hb
  have HX := Lib.hid hx
  have hp2 := Nat.mul_le_mul (show x ≤ 4294967295 by omega) (show x ≤ 4294967295 by omega)
  obtain ⟨p, hp⟩ : ∃ p, x * x = p := ⟨_, rfl⟩
  rw [hp] at s hp2
  have e1 : IntKind.u64.wrap ((x : Int) * (x : Int)) = (p : Int) := by rw [← Int.natCast_mul, hp, IntKind.wrap_u64]; omega
  have c1 : decide (4294967295 < (x : Int)) = false := by simp; omega
  have c2 : decide ((p : Int) ≤ (n : Int)) = true := by simp; omega
  have c2' : decide (p ≤ n) = true := by simp; omega
  have c3 : ((x : Int) == (x : Int)) = true := by simp
  by_cases hq : x = 4294967295
  · have q1 : ((x : Int) == 4294967295) = true := by simp; omega
    clear hx hp s hq
    go_enter Try.func4, Try.ntmps4
    go_wp2_with fail
    refine (sqrt_is n x _ hn HX.out).mono ?_
    rintro e w1 ⟨rfl, h1⟩
    go_wp2_with fail
    refine (shown_any _).mono ?_
    rintro e w2 ⟨rfl, h2⟩
    go_wp2_with fail
    refine (long_nat n x _ hn HX.out).mono ?_
    rintro e w3 ⟨rfl, h3⟩
    go_wp2
    go_ret
    exact ⟨rfl, below3 h1 h2 h3⟩
  · have q1 : ((x : Int) == 4294967295) = false := by simp; omega
    have hs2 := Nat.mul_le_mul (show x + 1 ≤ 4294967295 by omega) (show x + 1 ≤ 4294967295 by omega)
    obtain ⟨t, ht⟩ : ∃ t, (x + 1) * (x + 1) = t := ⟨_, rfl⟩
    rw [ht] at s hs2
    have e2 : IntKind.u64.wrap ((x : Int) + 1) = (x : Int) + 1 := IntWalk.u64_in _ (by omega)
    have e3 : IntKind.u64.wrap (((x : Int) + 1) * ((x : Int) + 1)) = (t : Int) := by
      rw [show ((x : Int) + 1) * ((x : Int) + 1) = (t : Int) from by rw [← ht]; simp, IntKind.wrap_u64]; omega
    have c4 : decide ((n : Int) < (t : Int)) = true := by simp; omega
    have c4' : decide (n < t) = true := by simp; omega
    clear hx hp ht s hq
    go_enter Try.func4, Try.ntmps4
    go_wp2_with fail
    refine (sqrt_is n x _ hn HX.out).mono ?_
    rintro e w1 ⟨rfl, h1⟩
    go_wp2_with fail
    refine (shown_any _).mono ?_
    rintro e w2 ⟨rfl, h2⟩
    go_wp2_with fail
    refine (long_nat n x _ hn HX.out).mono ?_
    rintro e w3 ⟨rfl, h3⟩
    go_wp2
    go_ret
    exact ⟨rfl, below3 h1 h2 h3⟩

theorem rt_between (x r : Nat) (h : r ≤ 2 * x) : rt (x * x + r) = x :=
  (rt_unique _ _ (by omega) (by rw [Nat.add_mul, Nat.mul_add, Nat.mul_add]; omega)).symm

theorem walk_RootSquares (x m : Nat) (w : World) (hx : x < 4294967296) (hm : m < 18446744073709551616) :
    Calls Try.prog 5 #[.int .u32 x, .int .u64 m] w fun e w' => e = .returned (.bool true) ∧ Below w.heap.size w w' := by
  have hp2 := Nat.mul_le_mul (show x ≤ 4294967295 by omega) (show x ≤ 4294967295 by omega)
  obtain ⟨r, hr⟩ : ∃ r, m % (2 * x + 1) = r := ⟨_, rfl⟩
  have hr2 : r ≤ 2 * x := by have := Nat.mod_lt m (show 0 < 2 * x + 1 by omega); omega
  have b1 := rt_between x 0 (by omega)
  have b2 := rt_between x r hr2
  obtain ⟨p, hp⟩ : ∃ p, x * x = p := ⟨_, rfl⟩
  rw [hp] at hp2 b1 b2
  obtain ⟨k, hk⟩ : ∃ k, p + r = k := ⟨_, rfl⟩
  rw [Nat.add_zero] at b1
  rw [hk] at b2
  have e0 : IntKind.u64.wrap (x : Int) = (x : Int) := IntWalk.u64_in _ (by omega)
  have e1 : IntKind.u64.wrap ((x : Int) * (x : Int)) = (p : Int) := by rw [← Int.natCast_mul, hp, IntKind.wrap_u64]; omega
  have e2 : IntKind.u64.wrap (2 * (x : Int)) = 2 * (x : Int) := IntWalk.u64_in _ (by omega)
  have e3 : IntKind.u64.wrap (2 * (x : Int) + 1) = 2 * (x : Int) + 1 := IntWalk.u64_in _ (by omega)
  have e4 : ((m : Int)) % (2 * (x : Int) + 1) = (r : Int) := by rw [← hr, Int.natCast_emod]; rfl
  have e4' : ((m : Int)).tmod (2 * (x : Int) + 1) = (r : Int) := by rw [Int.tmod_eq_emod_of_nonneg (by omega), e4]
  have e5 : IntKind.u64.wrap ((p : Int) + (r : Int)) = (k : Int) := by rw [IntKind.wrap_u64]; omega
  have z1 : (2 * (x : Int) + 1 == 0) = false := by simp; omega
  have z2 : ¬ 2 * (x : Int) + 1 = 0 := by omega
  have c3 : ((x : Int) == (x : Int)) = true := by simp
  have bp : p < 18446744073709551616 := by omega
  have bk : k < 18446744073709551616 := by omega
  have s1 : decide (rt p * rt p = p) = true := by rw [b1, hp]; simp
  obtain ⟨q, hq⟩ : ∃ q, ((k : Int) == (p : Int)) = q := ⟨_, rfl⟩
  have s2 : decide (rt k * rt k = k) = q := by
    rw [b2, hp, ← hq, Bool.eq_iff_iff, beq_iff_eq, decide_eq_true_eq, Int.ofNat_inj]; omega
  have B1 := Lib.hid b1
  have B2 := Lib.hid b2
  have S1 := Lib.hid s1
  have S2 := Lib.hid s2
  clear hr hp hk b1 b2 s1 s2 hp2
  go_enter Try.func5, Try.ntmps5
  go_wp2_with fail
  refine (sqrt_is p x _ bp B1.out).mono ?_
  rintro e w1 ⟨rfl, h1⟩
  go_wp2_with fail
  refine (sqrt_is k x _ bk B2.out).mono ?_
  rintro e w2 ⟨rfl, h2⟩
  go_wp2_with fail
  refine (square_is p true _ bp S1.out).mono ?_
  rintro e w3 ⟨rfl, h3⟩
  go_wp2_with fail
  refine (square_is k q _ bk S2.out).mono ?_
  rintro e w4 ⟨rfl, h4⟩
  go_wp2_with fail
  refine (shown_any _).mono ?_
  rintro e w5 ⟨rfl, h5⟩
  go_wp2
  go_ret
  exact ⟨rfl, below2 (below2 (below3 h1 h2 h3) h4) h5⟩
end Go.Proofs.Ytikochmlfdhfmaa
