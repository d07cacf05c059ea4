/- What the document's own roots answer: Long, Sqrt, Square. -/
import Derived.Test.YtmdhlkdeadfgdaaRef2
namespace Go.Proofs.Ytmdhlkdeadfgdaa
open Go.RowKit
set_option linter.unusedVariables false
set_option linter.unusedSimpArgs false
set_option maxHeartbeats 2000000

/-- What a root's bits come to: x² is A at most, and A is below the square of x and 2^k. -/
structure Bits (A k x : Nat) : Prop where
  le : x * x ≤ A
  gt : A < (x + 2 ^ k) * (x + 2 ^ k)
  bd : x + 2 ^ k ≤ 18446744073709551616
theorem Bits.start (A : Nat) (hA : A < 170141183460469231731687303715884105728) : Bits A 64 0 :=
  ⟨by omega, by rw [Nat.zero_add, show (2 : Nat) ^ 64 * 2 ^ 64 = 340282366920938463463374607431768211456 from by decide]; omega, by decide⟩
theorem Bits.yes {A k x : Nat} (b : Bits A (k + 1) x) (h : (x + 2 ^ k) * (x + 2 ^ k) ≤ A) : Bits A k (x + 2 ^ k) := by
  have e : 2 ^ (k + 1) = 2 ^ k + 2 ^ k := by rw [Nat.pow_succ]; omega
  have g := b.gt; have d := b.bd
  rw [e] at g d
  exact ⟨h, by rw [Nat.add_assoc]; exact g, by omega⟩
theorem Bits.no {A k x : Nat} (b : Bits A (k + 1) x) (h : ¬ (x + 2 ^ k) * (x + 2 ^ k) ≤ A) : Bits A k x := by
  have e : 2 ^ (k + 1) = 2 ^ k + 2 ^ k := by rw [Nat.pow_succ]; omega
  have d := b.bd
  rw [e] at d
  exact ⟨b.le, by omega, Nat.le_trans (Nat.add_le_add_left (Nat.le_add_right _ _) _) d⟩
theorem Bits.done {A x : Nat} (b : Bits A 0 x) : x = rt A := rt_unique A x b.le b.gt
theorem half_pow (k : Nat) : 2 ^ (k + 1) / 2 = 2 ^ k := by rw [Nat.pow_succ]; omega

theorem rlong_neg (a : Int) (w : World) (ia : In a) (h : a < 0) :
    Calls Try.prog 41 #[W a] w fun e w' => e = .returned (.int .u64 0) ∧ Below w.heap.size w w' := by
  have n0 : decide (hi a < 0) = true := by unfold In at ia; unfold hi; simp; omega
  go_enter Try.func41, Try.ntmps41
  go_wp2
  go_ret
  exact ⟨rfl, (Below.refl _ _).alloc (by simp) _⟩

theorem rlong_pos (A : Nat) (w : World) (hA : A < 170141183460469231731687303715884105728) :
    Calls Try.prog 41 #[W A] w fun e w' => e = .returned (.int .u64 (rt A : Nat)) ∧ Below w.heap.size w w' := by
  have ia : In (A : Int) := by unfold In; omega
  have IA := Lib.hid ia
  have HA := Lib.hid hA
  have n0 : decide (hi (A : Int) < 0) = false := by unfold hi; simp; omega
  clear ia hA
  go_enter Try.func41, Try.ntmps41
  go_wp2
  go_loopw [3, 4] (fun s3 s4 wr => ∃ k x b : Nat, s3 = .int .u64 x ∧ s4 = .int .u64 b ∧ b = 2 ^ k / 2 ∧ Bits A k x ∧ (wr.cell? ⟨w.heap.size, 0, none⟩ = some (.int .i64 (hi (A : Int))) ∧ wr.cell? ⟨w.heap.size, 1, none⟩ = some (.int .u64 (lo (A : Int)))) ∧ w.heap.size < wr.heap.size ∧ Below w.heap.size w wr) (fun _ s4 _ => (intOf s4).toNat)
  case atStart => exact ⟨64, 0, 9223372036854775808, rfl, rfl, by decide, Bits.start A HA.out, ⟨by simp, by simp⟩, by simp, (Below.refl _ _).alloc (by simp) _⟩
  case round =>
    obtain ⟨k, x, b, rfl, rfl, hb, bits, ⟨c0, c1⟩, hs, hB⟩ := hrel
    by_cases hk : k = 0
    · subst hk
      have hb0 : b = 0 := by rw [hb]
      subst hb0
      have Hx := Lib.hid bits.done
      clear hb bits
      go_wp2
      go_ret
      exact ⟨by rw [← Hx.out]; rfl, hB⟩
    · obtain ⟨k, rfl⟩ : ∃ j, k = j + 1 := ⟨k - 1, by omega⟩
      rw [half_pow] at hb
      clear hk
      have Hb := Lib.hid hb
      have BT := Lib.hid bits
      have bd := bits.bd
      have hp : 0 < 2 ^ k := Nat.pow_pos (by omega)
      have e2 : 2 ^ (k + 1) = 2 ^ k + 2 ^ k := by rw [Nat.pow_succ]; omega
      have b0 : 0 < (b : Int) := by omega
      have b1 : (x : Int) + b ≤ 18446744073709551615 := by omega
      have q0 : decide (0 < (b : Int)) = true := by simp; omega
      have q0' : decide (0 < b) = true := by simp; omega
      clear bd hp e2 hb bits
      go_wp2_with fail
      refine (upTo_any (x + b) A _ (by omega) IA.out).mono ?_
      rintro e w2 ⟨rfl, h2⟩
      have d0 := (h2.cell (p := ⟨w.heap.size, 0, none⟩) hs).trans c0
      have d1 := (h2.cell (p := ⟨w.heap.size, 1, none⟩) hs).trans c1
      have hs2 := Nat.lt_of_lt_of_le hs h2.size
      have hB2 := hB.trans (h2.mono (by omega))
      clear c0 c1 h2 hB hs
      have hlt2 : b / 2 < b := by omega
      by_cases hq : (x + b) * (x + b) ≤ A
      · have q1 : sqLe (x + b) A = true := by unfold sqLe; simp only [decide_eq_true_eq]; exact Int.ofNat_le.2 hq
        have HQ := Lib.hid hq
        clear hq
        go_wp2
        go_roundw
        case rel => exact ⟨k, x + b, b / 2, by go_num, by go_num, by rw [Hb.out], by have h := Hb.out; subst h; exact BT.out.yes HQ.out, ⟨d0, d1⟩, hs2, hB2⟩
        case measure => simp [intOf]; omega
      · have q1 : sqLe (x + b) A = false := by unfold sqLe; simp only [decide_eq_false_iff_not]; exact fun g => hq (Int.ofNat_le.1 g)
        have HQ := Lib.hid hq
        clear hq
        go_wp2
        go_roundw
        case rel => exact ⟨k, x, b / 2, rfl, by go_num, by rw [Hb.out], by have h := Hb.out; subst h; exact BT.out.no HQ.out, ⟨d0, d1⟩, hs2, hB2⟩
        case measure => simp [intOf]; omega

theorem rlong_any (a : Int) (w : World) (ia : In a) :
    Calls Try.prog 41 #[W a] w fun e w' => e = .returned (.int .u64 (rt a.toNat : Nat)) ∧ Below w.heap.size w w' := by
  by_cases h : a < 0
  · rw [show a.toNat = 0 from by omega, rt_0]
    exact rlong_neg a w ia h
  · obtain ⟨A, rfl⟩ := Int.eq_ofNat_of_zero_le (show 0 ≤ a by omega)
    rw [Int.toNat_natCast]
    exact rlong_pos A w (by unfold In at ia; omega)

theorem rsqrt_any (n : Nat) (w : World) (hn : n < 18446744073709551616) :
    Calls Try.prog 37 #[.int .u64 n] w fun e w' => e = .returned (.int .u64 (rt n : Nat)) ∧ Below w.heap.size w w' := by
  have e1 : (0 : Int) = hi (n : Int) := by unfold hi; omega
  have e2 : (n : Int) = lo (n : Int) := by unfold lo; omega
  have hl := fun wx => rlong_pos n wx (by omega)
  unfold W at hl
  rw [← e1, ← e2] at hl
  have HL := Lib.hid hl
  clear hl e1 e2
  go_enter Try.func37, Try.ntmps37
  go_wp2_with fail
  refine (HL.out _).mono ?_
  rintro e w2 ⟨rfl, h2⟩
  go_wp2
  go_ret
  exact ⟨rfl, h2⟩

/-- Is n a square? -/
def isSq (n : Nat) : Bool := decide (rt n * rt n = n)
theorem rt_word {n : Nat} (hn : n < 18446744073709551616) : rt n < 4294967296 := rt_lt (by omega)
end Go.Proofs.Ytmdhlkdeadfgdaa
