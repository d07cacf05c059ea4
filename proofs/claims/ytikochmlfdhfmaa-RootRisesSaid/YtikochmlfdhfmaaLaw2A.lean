/- The small case that all statements of layer 2 show; the walks of RootNear, RootSquares, RootRises, RootFour. -/
import Derived.Test.YtikochmlfdhfmaaRootC
namespace Go.Proofs.Ytikochmlfdhfmaa
open Go.RowKit
set_option linter.unusedVariables false
set_option linter.unusedSimpArgs false
set_option maxHeartbeats 400000

theorem below3 {w w1 w2 w3 : World} (h1 : Below w.heap.size w w1) (h2 : Below w1.heap.size w1 w2) (h3 : Below w2.heap.size w2 w3) : Below w.heap.size w w3 :=
  (h1.trans (h2.mono h1.size)).trans (h3.mono (Nat.le_trans h1.size h2.size))
theorem below2 {w w1 w2 : World} (h1 : Below w.heap.size w w1) (h2 : Below w1.heap.size w1 w2) : Below w.heap.size w w2 := h1.trans (h2.mono h1.size)

theorem rt_99 : rt 99 = 9 := (rt_unique 99 9 (by omega) (by omega)).symm
theorem rt_100 : rt 100 = 10 := (rt_unique 100 10 (by omega) (by omega)).symm
theorem rt_toNat (x : Nat) (v : Int) (h : v = ((x * x : Nat) : Int)) : rt v.toNat = x := by
  rw [h, Int.toNat_natCast]; exact rt_sq x
theorem long_sq (x : Nat) (v : Int) (w : World) (h : v = ((x * x : Nat) : Int)) (iv : In v) :
    Calls Try.prog 11 #[W v] w fun e w' => e = .returned (.int .u64 (x : Nat)) ∧ Below w.heap.size w w' := by
  have := long_any v w iv
  rw [rt_toNat x v h] at this
  exact this
theorem sqrt_is (n x : Nat) (w : World) (hn : n < 18446744073709551616) (h : rt n = x) :
    Calls Try.prog 9 #[.int .u64 n] w fun e w' => e = .returned (.int .u64 x) ∧ Below w.heap.size w w' := by
  have := sqrt_any n w hn
  rw [h] at this
  exact this
theorem square_is (n : Nat) (b : Bool) (w : World) (hn : n < 18446744073709551616) (h : decide (rt n * rt n = n) = b) :
    Calls Try.prog 13 #[.int .u64 n] w fun e w' => e = .returned (.bool b) ∧ Below w.heap.size w w' := by
  have := square_any n w hn
  rw [h] at this
  exact this
theorem sq99 : decide (rt 99 * rt 99 = 99) = false := by rw [rt_99]; decide
theorem sq100 : decide (rt 100 * rt 100 = 100) = true := by rw [rt_100]; decide
theorem big_eq : (85070591730234615847396907784232501249 : Int) = ((9223372036854775807 * 9223372036854775807 : Nat) : Int) := by decide
theorem shown_any (w : World) :
    Calls Try.prog 15 #[] w fun e w' => e = .returned (.bool true) ∧ Below w.heap.size w w' := by
  go_enter Try.func15, Try.ntmps15
  go_wp2_with fail
  refine (sqrt_is 99 9 _ (by omega) rt_99).mono ?_
  rintro e w1 ⟨rfl, h1⟩
  go_wp2_with fail
  refine (square_is 100 _ _ (by omega) sq100).mono ?_
  rintro e w2 ⟨rfl, h2⟩
  go_wp2_with fail
  refine (square_is 99 _ _ (by omega) sq99).mono ?_
  rintro e w3 ⟨rfl, h3⟩
  go_wp2_with fail
  refine (mul_any 9223372036854775807 9223372036854775807 _ (by omega) (by omega)).mono ?_
  rintro e w4 ⟨rfl, h4⟩
  go_wp2_with fail
  refine (long_sq 9223372036854775807 85070591730234615847396907784232501249 _ big_eq (by unfold In; omega)).mono ?_
  rintro e w5 ⟨rfl, h5⟩
  go_wp2
  go_ret
  exact ⟨rfl, below2 (below2 (below3 h1 h2 h3) h4) h5⟩

theorem walk_RootRises (a b : Nat) (w : World) (ha : a < 18446744073709551616) (hb : b < 18446744073709551616) :
    Calls Try.prog 7 #[.int .u64 a, .int .u64 b] w fun e w' => e = .returned (.bool true) ∧ Below w.heap.size w w' := by
  obtain ⟨m, hm⟩ : ∃ m, min a b = m := ⟨_, rfl⟩
  obtain ⟨M, hM⟩ : ∃ M, max a b = M := ⟨_, rfl⟩
  have e1 : min (a : Int) (b : Int) = (m : Int) := by omega
  have e2 : max (a : Int) (b : Int) = (M : Int) := by omega
  have bm : m < 18446744073709551616 := by omega
  have bM : M < 18446744073709551616 := by omega
  have hr := rt_mono (show m ≤ M by omega)
  obtain ⟨r, er⟩ : ∃ r, rt m = r := ⟨_, rfl⟩
  obtain ⟨R, eR⟩ : ∃ R, rt M = R := ⟨_, rfl⟩
  rw [er, eR] at hr
  have c1 : decide ((r : Int) ≤ (R : Int)) = true := by simp; omega
  have c2 : decide (r ≤ R) = true := by simp; omega
  have Er := Lib.hid er
  have ER := Lib.hid eR
  clear hm hM er eR hr
  go_enter Try.func7, Try.ntmps7
  go_wp2_with fail
  refine (sqrt_is m r _ bm Er.out).mono ?_
  rintro e w1 ⟨rfl, h1⟩
  go_wp2_with fail
  refine (sqrt_is M R _ bM ER.out).mono ?_
  rintro e w2 ⟨rfl, h2⟩
  go_wp2_with fail
  refine (shown_any _).mono ?_
  rintro e w3 ⟨rfl, h3⟩
  go_wp2
  go_ret
  exact ⟨rfl, below3 h1 h2 h3⟩

theorem four_rt (n : Nat) : rt (4 * n) = 2 * rt n ∨ rt (4 * n) = 2 * rt n + 1 := by
  have s := rt_spec n
  obtain ⟨r, hr⟩ : ∃ r, rt n = r := ⟨_, rfl⟩
  rw [hr] at s ⊢
  have e1 : (2 * r) * (2 * r) = 4 * (r * r) := by rw [Nat.mul_mul_mul_comm]
  have e2 : (2 * r + 2) * (2 * r + 2) = 4 * ((r + 1) * (r + 1)) := by rw [show 2 * r + 2 = 2 * (r + 1) by omega, Nat.mul_mul_mul_comm]
  have h1 : 2 * r ≤ rt (4 * n) := (le_rt _ _).1 (by omega)
  have h2 : rt (4 * n) < 2 * r + 2 := rt_lt (by omega)
  omega

theorem walk_RootFour (n : Nat) (w : World) (hn : n < 18446744073709551616) :
    Calls Try.prog 8 #[.int .u64 n] w fun e w' => e = .returned (.bool true) ∧ Below w.heap.size w w' := by
  by_cases h : 4611686018427387903 < n
  · have c1 : decide (4611686018427387903 < (n : Int)) = true := by simp; omega
    have c2 : decide (4611686018427387903 < n) = true := by simp; omega
    go_enter Try.func8, Try.ntmps8
    go_wp2_with fail
    refine (shown_any _).mono ?_
    rintro e w1 ⟨rfl, h1⟩
    go_wp2
    go_ret
    exact ⟨rfl, h1⟩
  · have c1 : decide (4611686018427387903 < (n : Int)) = false := by simp; omega
    have c2 : decide (4611686018427387903 < n) = false := by simp; omega
    have f := four_rt n
    have hw := rt_lt (n := n) (b := 4294967296) (by omega)
    have e1 : IntKind.u64.wrap (4 * (n : Int)) = ((4 * n : Nat) : Int) := by rw [IntKind.wrap_u64]; omega
    obtain ⟨m, hm⟩ : ∃ m, 4 * n = m := ⟨_, rfl⟩
    rw [hm] at f e1
    obtain ⟨r, er⟩ : ∃ r, rt n = r := ⟨_, rfl⟩
    obtain ⟨R, eR⟩ : ∃ R, rt m = R := ⟨_, rfl⟩
    rw [er, eR] at f
    rw [er] at hw
    have e2 : IntKind.u64.wrap (2 * (r : Int)) = 2 * (r : Int) := IntWalk.u64_in _ (by omega)
    have e3 : IntKind.u64.wrap (2 * (r : Int) + 1) = 2 * (r : Int) + 1 := IntWalk.u64_in _ (by omega)
    have bm : m < 18446744073709551616 := by omega
    have Er := Lib.hid er
    have ER := Lib.hid eR
    clear hm er eR
    by_cases hq : R = 2 * r
    · have q1 : ((R : Int) == 2 * (r : Int)) = true := by simp; omega
      go_enter Try.func8, Try.ntmps8
      go_wp2_with fail
      refine (shown_any _).mono ?_
      rintro e w1 ⟨rfl, h1⟩
      go_wp2_with fail
      refine (sqrt_is n r _ hn Er.out).mono ?_
      rintro e w2 ⟨rfl, h2⟩
      go_wp2_with fail
      refine (sqrt_is m R _ bm ER.out).mono ?_
      rintro e w3 ⟨rfl, h3⟩
      go_wp2
      go_ret
      exact ⟨rfl, below3 h1 h2 h3⟩
    · have q1 : ((R : Int) == 2 * (r : Int)) = false := by simp; omega
      have q2 : ((R : Int) == 2 * (r : Int) + 1) = true := by simp; omega
      go_enter Try.func8, Try.ntmps8
      go_wp2_with fail
      refine (shown_any _).mono ?_
      rintro e w1 ⟨rfl, h1⟩
      go_wp2_with fail
      refine (sqrt_is n r _ hn Er.out).mono ?_
      rintro e w2 ⟨rfl, h2⟩
      go_wp2_with fail
      refine (sqrt_is m R _ bm ER.out).mono ?_
      rintro e w3 ⟨rfl, h3⟩
      go_wp2
      go_ret
      exact ⟨rfl, below3 h1 h2 h3⟩
end Go.Proofs.Ytikochmlfdhfmaa
