/- The walks of RootTells, RootLong. -/
import Derived.Test.YtikochmlfdhfmaaLaw2B
import Derived.Test.YtikochmlfdhfmaaRef2B
namespace Go.Proofs.Ytikochmlfdhfmaa
open Go.RowKit
set_option linter.unusedVariables false
set_option linter.unusedSimpArgs false
set_option maxHeartbeats 4000000
set_option maxRecDepth 100000

theorem rsqrt_is (n x : Nat) (w : World) (hn : n < 18446744073709551616) (h : rt n = x) :
    Calls Try.prog 10 #[.int .u64 n] w fun e w' => e = .returned (.int .u64 x) ∧ Below w.heap.size w w' := by
  have := rsqrt_any n w hn
  rw [h] at this
  exact this
theorem rsquare_is (n : Nat) (b : Bool) (w : World) (hn : n < 18446744073709551616) (h : decide (rt n * rt n = n) = b) :
    Calls Try.prog 14 #[.int .u64 n] w fun e w' => e = .returned (.bool b) ∧ Below w.heap.size w w' := by
  have := rsquare_any n w hn
  rw [show isSq n = b from h] at this
  exact this
theorem long_is (a : Int) (r : Nat) (w : World) (ia : In a) (h : rt a.toNat = r) :
    Calls Try.prog 11 #[W a] w fun e w' => e = .returned (.int .u64 r) ∧ Below w.heap.size w w' := by
  have := long_any a w ia
  rw [h] at this
  exact this
theorem rlong_is (a : Int) (r : Nat) (w : World) (ia : In a) (h : rt a.toNat = r) :
    Calls Try.prog 12 #[W a] w fun e w' => e = .returned (.int .u64 r) ∧ Below w.heap.size w w' := by
  have := rlong_any a w ia
  rw [h] at this
  exact this

theorem walk_RootTells (n : Nat) (a : Int) (w : World) (hn : n < 18446744073709551616) (ia : In a) :
    Calls Try.prog 3 #[.int .u64 n, W a] w fun e w' => e = .returned (.bool true) ∧ Below w.heap.size w w' := by
  obtain ⟨x, hx⟩ : ∃ x, rt n = x := ⟨_, rfl⟩
  obtain ⟨y, hy⟩ : ∃ y, rt a.toNat = y := ⟨_, rfl⟩
  obtain ⟨d, hd⟩ : ∃ d, decide (rt n * rt n = n) = d := ⟨_, rfl⟩
  have HX := Lib.hid hx
  have HY := Lib.hid hy
  have HD := Lib.hid hd
  have IA := Lib.hid ia
  have c1 : ((x : Int) == (x : Int)) = true := by simp
  have c2 : ((y : Int) == (y : Int)) = true := by simp
  have c3 : (d == d) = true := by simp
  clear hx hy hd ia
  go_enter Try.func3, Try.ntmps3
  go_wp2_with fail
  refine any_gen (fun w' => w'.cell? ⟨w.heap.size, 0, none⟩ = some (.int .i64 (hi a)) ∧ w'.cell? ⟨w.heap.size, 1, none⟩ = some (.int .u64 (lo a)) ∧ w.heap.size + 1 ≤ w'.heap.size ∧ Below w.heap.size w w') ⟨by simp [go_sem], by simp [go_sem], ?siz, ?bel⟩ ?_
  case siz => simp
  case bel => repeat (first | exact Below.refl _ _ | refine below_dN ?_ _ | refine Below.setCell ?_ (by simp; try omega) _ | refine Below.alloc ?_ (by simp; try omega) _)
  rintro w0 ⟨c1, c2, hs, hb0⟩
  first | (go_region_held3 (fun w' => w'.cell? ⟨w.heap.size, 0, none⟩ = some (.int .i64 (hi a)) ∧ w'.cell? ⟨w.heap.size, 1, none⟩ = some (.int .u64 (lo a)) ∧ Below w0.heap.size w0 w') ((first | assumption | exact ⟨by simp [*], by simp [*], (Below.refl _ _).drew⟩ | exact keep2 ‹_› hb (by dsimp only; omega) (by dsimp only; omega) | exact keepA2 ‹_› _ (by dsimp only; omega) (by dsimp only; omega) | exact keepS2 (keepS2 ‹_› _ _ (by dsimp only; omega) (by dsimp only; omega) (by dsimp only; omega)) _ _ (by dsimp only; omega) (by dsimp only; omega) (by dsimp only; omega))) ((first | (go_at_call 9; refine (sqrt_is n x _ hn HX.out).mono ?_; rintro e w' ⟨rfl, hb⟩) | (go_at_call 10; refine (rsqrt_is n x _ hn HX.out).mono ?_; rintro e w' ⟨rfl, hb⟩) | (go_at_call 11; refine (long_is a y _ IA.out HY.out).mono ?_; rintro e w' ⟨rfl, hb⟩) | (go_at_call 12; refine (rlong_is a y _ IA.out HY.out).mono ?_; rintro e w' ⟨rfl, hb⟩) | (go_at_call 13; refine (square_is n d _ hn HD.out).mono ?_; rintro e w' ⟨rfl, hb⟩) | (go_at_call 14; refine (rsquare_is n d _ hn HD.out).mono ?_; rintro e w' ⟨rfl, hb⟩) | (go_at_call 15; refine (shown_any _).mono ?_; rintro e w' ⟨rfl, hb⟩)))) | fail
  all_goals
    have hF := belK2 ‹_ ∧ _ ∧ Below w0.heap.size w0 _›
    go_wp2
    go_ret
    exact ⟨rfl, hb0.trans (hF.mono (by omega))⟩

theorem rt_less (X : Nat) (h : 1 ≤ X) : rt (X * X - 1) = X - 1 := by
  obtain ⟨k, rfl⟩ : ∃ k, X = k + 1 := ⟨X - 1, by omega⟩
  refine (rt_unique _ _ ?_ ?_).symm
  · rw [Nat.add_sub_cancel, Nat.add_mul, Nat.mul_add]; omega
  · rw [show k + 1 - 1 + 1 = k + 1 by omega]
    have : 0 < (k + 1) * (k + 1) := Nat.mul_pos (by omega) (by omega)
    omega
theorem mul_is (a b v : Int) (w : World) (ha : -9223372036854775808 ≤ a ∧ a ≤ 9223372036854775807) (hb : -9223372036854775808 ≤ b ∧ b ≤ 9223372036854775807) (h : a * b = v) :
    Calls Try.prog 16 #[.int .i64 a, .int .i64 b] w fun e w' => e = .returned (W v) ∧ Below w.heap.size w w' := by
  have := mul_any a b w ha hb
  rw [h] at this
  exact this
theorem sub_is (a b v : Int) (w : World) (h : a - b = v) :
    Calls Try.prog 17 #[W a, W b] w fun e w' => e = .returned (W v) ∧ Below w.heap.size w w' := by
  have := sub_any a b w
  rw [h] at this
  exact this
theorem add_is (a b v : Int) (w : World) (h : a + b = v) :
    Calls Try.prog 19 #[W a, W b] w fun e w' => e = .returned (W v) ∧ Below w.heap.size w w' := by
  have := add_any a b w
  rw [h] at this
  exact this

theorem walk_RootLong (x : Int) (w : World) (hx : -9223372036854775808 ≤ x ∧ x ≤ 9223372036854775807) :
    Calls Try.prog 6 #[.int .i64 x] w fun e w' => e = .returned (.bool true) ∧ Below w.heap.size w w' := by
  by_cases h2 : x < 2
  · have c1 : decide (x < 2) = true := by simp; omega
    go_enter Try.func6, Try.ntmps6
    go_wp2_with fail
    refine (shown_any _).mono ?_
    rintro e w1 ⟨rfl, h1⟩
    go_wp2
    go_ret
    exact ⟨rfl, h1⟩
  · have c1 : decide (x < 2) = false := by simp; omega
    obtain ⟨X, rfl⟩ := Int.eq_ofNat_of_zero_le (show 0 ≤ x by omega)
    have hX : 2 ≤ X ∧ X ≤ 9223372036854775807 := by omega
    have hm := Nat.mul_le_mul hX.2 hX.2
    have hl := Nat.mul_le_mul hX.1 hX.1
    obtain ⟨P, hP⟩ : ∃ P, X * X = P := ⟨_, rfl⟩
    have r0 := rt_between X 0 (by omega)
    have r1 := rt_less X (by omega)
    have r2 := rt_between X 1 (by omega)
    rw [hP] at hm hl r0 r1 r2
    obtain ⟨p, hp⟩ : ∃ p : Int, (P : Int) = p := ⟨_, rfl⟩
    obtain ⟨m, hm1⟩ : ∃ m : Int, p - 1 = m := ⟨_, rfl⟩
    obtain ⟨q, hq1⟩ : ∃ q : Int, p + 1 = q := ⟨_, rfl⟩
    obtain ⟨o, ho1⟩ : ∃ o : Int, 0 - p = o := ⟨_, rfl⟩
    obtain ⟨Y, hY⟩ : ∃ Y, X - 1 = Y := ⟨_, rfl⟩
    have MUL := Lib.hid (fun w => mul_is X X p w (by omega) (by omega) (by rw [← Int.natCast_mul, hP, hp]))
    have IP : In p := by unfold In; omega
    have IM : In m := by unfold In; omega
    have IQ : In q := by unfold In; omega
    have IO : In o := by unfold In; omega
    have RP := Lib.hid (show rt p.toNat = X by rw [show p.toNat = P + 0 by omega]; exact r0)
    have RM := Lib.hid (show rt m.toNat = Y by rw [show m.toNat = P - 1 by omega, ← hY]; exact r1)
    have RQ := Lib.hid (show rt q.toNat = X by rw [show q.toNat = P + 1 by omega]; exact r2)
    have RO := Lib.hid (show rt o.toNat = 0 by rw [show o.toNat = 0 by omega]; exact rt_0)
    have SM := Lib.hid hm1
    have AQ := Lib.hid hq1
    have SO := Lib.hid ho1
    have e1 : IntKind.u64.wrap (X : Int) = (X : Int) := IntWalk.u64_in _ (by omega)
    have e2 : IntKind.u64.wrap ((X : Int) - 1) = (Y : Int) := by rw [IntKind.wrap_u64]; omega
    have q1 : ((X : Int) == (X : Int)) = true := by simp
    have q2 : ((Y : Int) == (Y : Int)) = true := by simp
    clear hP r0 r1 r2 hp hm1 hq1 ho1 hY hm hl hx h2
    go_enter Try.func6, Try.ntmps6
    go_wp2_with fail
    refine (shown_any _).mono ?_
    rintro e w1 ⟨rfl, h1⟩
    go_wp2_with fail
    refine (MUL.out _).mono ?_
    rintro e w2 ⟨rfl, h2⟩
    have h12 := below2 h1 h2
    clear h1 h2
    have hz := h12.size
    go_wp2_with fail
    refine any_gen (fun w' => w'.cell? ⟨w2.heap.size, 0, none⟩ = some (.int .i64 (hi p)) ∧ w'.cell? ⟨w2.heap.size, 1, none⟩ = some (.int .u64 (lo p)) ∧ w2.heap.size + 1 ≤ w'.heap.size ∧ Below w.heap.size w w') ⟨by simp [go_sem], by simp [go_sem], ?siz, ?bel⟩ ?_
    case siz => simp
    case bel => repeat (first | exact h12 | exact Below.refl _ _ | refine below_dN ?_ _ | refine Below.setCell ?_ (by first | omega | (simp; done) | (simp; omega)) _ | refine Below.alloc ?_ (by first | omega | (simp; done) | (simp; omega)) _)
    rintro w0 ⟨c1, c2, hs, hb0⟩
    first | (go_region_held3 (fun w' => w'.cell? ⟨w2.heap.size, 0, none⟩ = some (.int .i64 (hi p)) ∧ w'.cell? ⟨w2.heap.size, 1, none⟩ = some (.int .u64 (lo p)) ∧ Below w0.heap.size w0 w') ((first | assumption | exact ⟨by simp [*], by simp [*], (Below.refl _ _).drew⟩ | exact keep2 ‹_› hb (by dsimp only; omega) (by dsimp only; omega) | exact keepA2 ‹_› _ (by dsimp only; omega) (by dsimp only; omega) | exact keepS2 (keepS2 ‹_› _ _ (by dsimp only; omega) (by dsimp only; omega) (by dsimp only; omega)) _ _ (by dsimp only; omega) (by dsimp only; omega) (by dsimp only; omega))) ((first | (go_at_call 11; refine (long_any _ _ ?_).mono ?_; (with_reducible first | exact IP | exact IM | exact IQ | exact IO); rintro e w' ⟨rfl, hb⟩; (first | rw [RP.out] | rw [RM.out] | rw [RQ.out] | rw [RO.out])) | (go_at_call 18; refine (of_any 1 _ (by omega)).mono ?_; rintro e w' ⟨rfl, hb⟩) | (go_at_call 18; refine (of_any 0 _ (by omega)).mono ?_; rintro e w' ⟨rfl, hb⟩) | (go_at_call 17; refine (sub_any _ _ _).mono ?_; rintro e w' ⟨rfl, hb⟩; (first | rw [SM.out] | rw [SO.out])) | (go_at_call 19; refine (add_any _ _ _).mono ?_; rintro e w' ⟨rfl, hb⟩; rw [AQ.out])))) | fail
    all_goals
      have hF := belK2 ‹_ ∧ _ ∧ Below w0.heap.size w0 _›
      go_wp2
      go_ret
      exact ⟨rfl, hb0.trans (hF.mono (by omega))⟩
end Go.Proofs.Ytikochmlfdhfmaa
