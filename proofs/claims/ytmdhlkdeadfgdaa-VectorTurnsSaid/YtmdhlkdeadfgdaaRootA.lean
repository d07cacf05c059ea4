/- What the program's own roots lean on: the first guess, the mean of two words. -/
import Derived.Test.YtmdhlkdeadfgdaaWideC
import Derived.Test.YtmdhlkdeadfgdaaNewtNum
import Derived.Test.YtmdhlkdeadfgdaaMore
namespace Go.Proofs.Ytmdhlkdeadfgdaa
open Go.RowKit
set_option linter.unusedVariables false
set_option linter.unusedSimpArgs false
set_option maxHeartbeats 1000000

theorem len_any (y : Nat) (w : World) (hy : y < 18446744073709551616) :
    Calls Try.prog 73 #[.int .u64 y] w fun e w' => e = .returned (.int .i64 (Lib.bitLen y : Int)) ∧ w = w' := by
  refine (Try.bits_Len64 y w (by omega) (by omega)).mono ?_
  rintro e w' ⟨rfl, rfl⟩
  exact ⟨rfl, rfl⟩

theorem and_u64 (a b : Nat) (ha : a < 18446744073709551616) (hb : b < 18446744073709551616) : bits .and .u64 (a : Int) (b : Int) = ((a &&& b : Nat) : Int) := by
  show IntKind.u64.wrap ((BitVec.ofInt 64 (a : Int) &&& BitVec.ofInt 64 (b : Int)).toNat : Nat) = _
  rw [BitVec.toNat_and, BitVec.toNat_ofInt, BitVec.toNat_ofInt, IntKind.wrap_u64]
  have e1 : ((a : Int) % ((2 ^ 64 : Nat) : Int)).toNat = a := by omega
  have e2 : ((b : Int) % ((2 ^ 64 : Nat) : Int)).toNat = b := by omega
  rw [e1, e2]
  have := Nat.and_le_left (n := a) (m := b)
  omega
theorem xor_u64 (a b : Nat) (ha : a < 18446744073709551616) (hb : b < 18446744073709551616) : bits .xor .u64 (a : Int) (b : Int) = ((a ^^^ b : Nat) : Int) := by
  show IntKind.u64.wrap ((BitVec.ofInt 64 (a : Int) ^^^ BitVec.ofInt 64 (b : Int)).toNat : Nat) = _
  rw [BitVec.toNat_xor, BitVec.toNat_ofInt, BitVec.toNat_ofInt, IntKind.wrap_u64]
  have e1 : ((a : Int) % ((2 ^ 64 : Nat) : Int)).toNat = a := by omega
  have e2 : ((b : Int) % ((2 ^ 64 : Nat) : Int)).toNat = b := by omega
  rw [e1, e2]
  have := Nat.xor_lt_two_pow (n := 64) (x := a) (y := b) (by omega) (by omega)
  omega

theorem mean_any (a b : Nat) (w : World) (ha : a < 18446744073709551616) (hb : b < 18446744073709551616) :
    Calls Try.prog 71 #[.int .u64 a, .int .u64 b] w fun e w' => e = .returned (.int .u64 ((a + b) / 2 : Nat)) ∧ w = w' := by
  have h := and_xor 64 a b (by omega) (by omega)
  have e1 := and_u64 a b ha hb
  have e2 := xor_u64 a b ha hb
  have b1 : a &&& b ≤ a := Nat.and_le_left
  have b2 : a ^^^ b < 18446744073709551616 := Nat.xor_lt_two_pow (n := 64) (x := a) (y := b) (by omega) (by omega)
  obtain ⟨x, hx⟩ : ∃ x, a &&& b = x := ⟨_, rfl⟩
  obtain ⟨y, hy⟩ : ∃ y, a ^^^ b = y := ⟨_, rfl⟩
  rw [hx] at h e1 b1
  rw [hy] at h e2 b2
  have Fin := Lib.hid h
  clear h hx hy
  go_enter Try.func71, Try.ntmps71
  go_wp2
  go_ret
  refine ⟨?_, rfl⟩
  have := Fin.out
  refine congrArg (fun z => Ending.returned (.int .u64 z)) ?_
  simp only [IntKind.wrap_u64]
  omega

/-- All ones, in half as many digits as A has. -/
def ones (d : Nat) : Int := IntKind.u64.wrap (IntKind.u64.wrap (2 ^ ((d + 1) / 2)) - 1)
theorem ones_eq (d : Nat) (hd : d ≤ 128) : ones d = ((2 ^ ((d + 1) / 2) - 1 : Nat) : Int) := by
  unfold ones
  have hk : (d + 1) / 2 ≤ 64 := by omega
  generalize (d + 1) / 2 = k at *
  have hp : 0 < 2 ^ k := Nat.pow_pos (by omega)
  have hq : 2 ^ k ≤ 2 ^ 64 := Nat.pow_le_pow_right (by omega) hk
  have e : ((2 : Int) ^ k) = ((2 ^ k : Nat) : Int) := by simp
  rw [e]
  generalize 2 ^ k = p at *
  simp only [IntKind.wrap_u64]
  omega
theorem len_lt {x : Nat} (hx : x < 18446744073709551616) : x < 2 ^ Lib.bitLen x ∧ Lib.bitLen x ≤ 64 := by
  refine ⟨?_, Lib.bitLen_le x 64 (Nat.le_refl _) hx⟩
  rcases Nat.eq_zero_or_pos x with h | h
  · subst h; exact Nat.pow_pos (by omega)
  · exact (Lib.bitLenAux_bounds 64 x hx (by omega)).2.2

theorem ones_bd {A d : Nat} (hA : A < 2 ^ d) (hd : d ≤ 128) : ∃ g : Nat, rt A ≤ g ∧ g < 18446744073709551616 ∧ ones d = g := by
  refine ⟨2 ^ ((d + 1) / 2) - 1, ones_ge hA, ?_, ones_eq d hd⟩
  have hq : 2 ^ ((d + 1) / 2) ≤ 2 ^ 64 := Nat.pow_le_pow_right (by omega) (by omega)
  have hp : 0 < 2 ^ ((d + 1) / 2) := Nat.pow_pos (by omega)
  omega
theorem first_any (h l : Nat) (w : World) (hh : h < 9223372036854775808) (hl : l < 18446744073709551616) :
    Calls Try.prog 70 #[.int .u64 h, .int .u64 l] w fun e w' => (∃ g : Nat, rt (h * 18446744073709551616 + l) ≤ g ∧ g < 18446744073709551616 ∧ e = .returned (.int .u64 g)) ∧ w = w' := by
  by_cases h0 : h = 0
  · subst h0
    obtain ⟨u1, u2⟩ := len_lt hl
    obtain ⟨d, hd⟩ : ∃ d, Lib.bitLen l = d := ⟨_, rfl⟩
    rw [hd] at u2 u1
    have Fin := Lib.hid (ones_bd u1 (by omega))
    have HD := Lib.hid hd
    have hk : 0 ≤ (((d + 1) / 2 : Nat) : Int) := by omega
    clear u1 hd
    go_enter Try.func70, Try.ntmps70
    go_wp2_with fail
    refine (len_any l _ hl).mono ?_
    rintro e w2 ⟨rfl, rfl⟩
    rw [HD.out]
    go_wp2
    go_ret
    refine ⟨?_, rfl⟩
    obtain ⟨g, g1, g2, g3⟩ := Fin.out
    exact ⟨g, by rw [Nat.zero_mul, Nat.zero_add]; exact g1, g2, congrArg (fun z => Ending.returned (.int .u64 z)) g3⟩
  · obtain ⟨v1, v2⟩ := len_lt hl
    obtain ⟨u1, u2⟩ := len_lt (x := h) (by omega)
    obtain ⟨d, hd⟩ : ∃ d, Lib.bitLen h = d := ⟨_, rfl⟩
    obtain ⟨c, hc⟩ : ∃ c, Lib.bitLen l = c := ⟨_, rfl⟩
    rw [hd] at u2 u1
    rw [hc] at v2
    have hA : h * 18446744073709551616 + l < 2 ^ (64 + d) := by
      rw [Nat.pow_add, show (2 : Nat) ^ 64 = 18446744073709551616 from rfl]
      have := Nat.mul_le_mul_left 18446744073709551616 (show h + 1 ≤ 2 ^ d from u1)
      rw [Nat.mul_add] at this
      omega
    have Fin := Lib.hid (ones_bd hA (by omega))
    have HD := Lib.hid hd
    have HC := Lib.hid hc
    have hk : 0 ≤ (((64 + d + 1) / 2 : Nat) : Int) := by omega
    have h1 : ((h : Int) == 0) = false := by simp; omega
    have h2 : (h == 0) = false := by simp; omega
    have h3 : ((h : Int) != 0) = true := by simp; omega
    have h4 : (h != 0) = true := by simp; omega
    clear u1 v1 hd hc hA
    go_enter Try.func70, Try.ntmps70
    go_wp2_with fail
    refine (len_any l _ hl).mono ?_
    rintro e w2 ⟨rfl, rfl⟩
    rw [HC.out]
    go_wp2_with fail
    refine (len_any h _ (by omega)).mono ?_
    rintro e w2 ⟨rfl, rfl⟩
    rw [HD.out]
    go_wp2
    go_ret
    refine ⟨?_, rfl⟩
    obtain ⟨g, g1, g2, g3⟩ := Fin.out
    refine ⟨g, g1, g2, ?_⟩
    rw [← g3]
    rfl
end Go.Proofs.Ytmdhlkdeadfgdaa
