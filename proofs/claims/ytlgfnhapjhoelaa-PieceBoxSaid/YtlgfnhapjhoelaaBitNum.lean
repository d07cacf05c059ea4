/- Division bit by bit: plain facts. -/
import Derived.Test.YtlgfnhapjhoelaaNum
namespace Go.Proofs.Ytlgfnhapjhoelaa.Bt

/-- After some rounds: of A the upper bits have been taken (their number is P), j are left (rest), which stand at the top of the two words H, L; P is Q times b, and R. -/
structure Inv (A b : Nat) (j : Nat) (H L R Q : Nat) : Prop where
  mk ::
  ex : ∃ P rest T : Nat, A = P * 2 ^ j + rest ∧ rest < 2 ^ j ∧ 2 ^ j * T = 340282366920938463463374607431768211456 ∧ H * 18446744073709551616 + L = rest * T ∧ P = Q * b + R
  rb : R < b
  lb : L < 18446744073709551616

theorem hbound {A b j H L R Q : Nat} (i : Inv A b j H L R Q) : H < 18446744073709551616 := by
  obtain ⟨P, rest, T, h1, h2, h3, h4, h5⟩ := i.ex
  have hT : 0 < T := by
    rcases Nat.eq_zero_or_pos T with h | h
    · subst h; omega
    · exact h
  have := Nat.mul_lt_mul_of_pos_right h2 hT
  omega

theorem mkM {A b j H L R Q : Nat} (M P rest T : Nat) (hM : 2 ^ j = M) (h1 : A = P * M + rest) (h2 : rest < M) (h3 : M * T = 340282366920938463463374607431768211456) (h4 : H * 18446744073709551616 + L = rest * T) (h5 : P = Q * b + R) (rb : R < b) (lb : L < 18446744073709551616) : Inv A b j H L R Q := by
  subst hM
  exact ⟨⟨P, rest, T, h1, h2, h3, h4, h5⟩, rb, lb⟩
theorem halves (L : Nat) (hL : L < 18446744073709551616) : ∃ c d : Nat, L / 9223372036854775808 = c ∧ L * 2 % 18446744073709551616 = 2 * d ∧ L = 9223372036854775808 * c + d ∧ c ≤ 1 ∧ d < 9223372036854775808 :=
  ⟨L / 9223372036854775808, L % 9223372036854775808, rfl, by omega, by omega, by omega, by omega⟩
theorem lin_hi (K c d X : Nat) (hX : (9223372036854775808 + K) * 18446744073709551616 + (9223372036854775808 * c + d) = X) :
    (K * 2 + c) * 18446744073709551616 + 2 * d + 340282366920938463463374607431768211456 = 2 * X := by
  subst hX
  rw [Nat.add_mul, Nat.add_mul]
  omega
theorem lin_lo (H c d X : Nat) (hX : H * 18446744073709551616 + (9223372036854775808 * c + d) = X) :
    (H * 2 + c) * 18446744073709551616 + 2 * d = 2 * X := by
  subst hX
  rw [Nat.add_mul]
  omega
theorem lin_sub (a b s : Nat) (h : a + 340282366920938463463374607431768211456 = 2 * b) (hs : s = b - 170141183460469231731687303715884105728) (hb : 170141183460469231731687303715884105728 ≤ b) : a = 2 * s := by
  obtain ⟨k, rfl⟩ : ∃ k, b = 170141183460469231731687303715884105728 + k := ⟨_, (Nat.add_sub_cancel' hb).symm⟩
  rw [Nat.add_sub_cancel_left] at hs
  subst hs
  rw [Nat.mul_add] at h
  omega
theorem words_hi (H L X : Nat) (hX : H * 18446744073709551616 + L = X) (hL : L < 18446744073709551616) (hb : H < 18446744073709551616) (h : 9223372036854775808 ≤ H) :
    (H * 2 + L / 9223372036854775808) % 18446744073709551616 * 18446744073709551616 + L * 2 % 18446744073709551616 + 340282366920938463463374607431768211456 = 2 * X := by
  obtain ⟨c, d, e1, e2, e3, e4, e5⟩ := halves L hL
  rw [e1, e2]
  obtain ⟨K, rfl⟩ : ∃ K, H = 9223372036854775808 + K := ⟨H - 9223372036854775808, by omega⟩
  have e6 : (9223372036854775808 + K) * 2 + c = (K * 2 + c) + 18446744073709551616 := by omega
  rw [e6, Nat.add_mod_right, Nat.mod_eq_of_lt (by omega)]
  subst e3
  exact lin_hi K c d X hX
theorem words_lo (H L X : Nat) (hX : H * 18446744073709551616 + L = X) (hL : L < 18446744073709551616) (h : H < 9223372036854775808) :
    (H * 2 + L / 9223372036854775808) % 18446744073709551616 * 18446744073709551616 + L * 2 % 18446744073709551616 = 2 * X := by
  obtain ⟨c, d, e1, e2, e3, e4, e5⟩ := halves L hL
  rw [e1, e2, Nat.mod_eq_of_lt (by omega)]
  subst e3
  exact lin_lo H c d X hX
/-- One bit more. -/
theorem step {A b j H L R Q : Nat} (i : Inv A b (j + 1) H L R Q) :
    ∃ bit : Nat, H / 9223372036854775808 = bit ∧ bit ≤ 1 ∧
      (R * 2 + bit < b → Inv A b j ((H * 2 + L / 9223372036854775808) % 18446744073709551616) (L * 2 % 18446744073709551616) (R * 2 + bit) (2 * Q)) ∧
      (b ≤ R * 2 + bit → Inv A b j ((H * 2 + L / 9223372036854775808) % 18446744073709551616) (L * 2 % 18446744073709551616) (R * 2 + bit - b) (2 * Q + 1)) := by
  have hH := hbound i
  obtain ⟨P, rest, T, h1, h2, h3, h4, h5⟩ := i.ex
  have rb := i.rb
  have lb := i.lb
  have e2 : 2 ^ (j + 1) = 2 * 2 ^ j := by rw [Nat.pow_succ]; omega
  rw [e2] at h1 h2 h3
  generalize hM : 2 ^ j = M at *
  have hMT : M * T = 170141183460469231731687303715884105728 := by rw [Nat.mul_assoc] at h3; omega
  have hMT2 : M * (2 * T) = 340282366920938463463374607431768211456 := by rw [Nat.mul_left_comm]; omega
  have hT : 0 < T := by
    rcases Nat.eq_zero_or_pos T with h | h
    · subst h; omega
    · exact h
  have hP2 : P * (2 * M) = 2 * P * M := by rw [Nat.mul_left_comm, Nat.mul_assoc]
  by_cases hr : M ≤ rest
  · have hge := Nat.mul_le_mul_right T hr
    have hlt : (rest - M) * T < M * T := Nat.mul_lt_mul_of_pos_right (by omega) hT
    have hsub : (rest - M) * T = rest * T - M * T := Nat.sub_mul _ _ _
    have hX : (rest - M) * (2 * T) = 2 * ((rest - M) * T) := Nat.mul_left_comm _ _ _
    have hW0 := words_hi H L _ h4 lb hH (by omega)
    have hW : (H * 2 + L / 9223372036854775808) % 18446744073709551616 * 18446744073709551616 + L * 2 % 18446744073709551616 = (rest - M) * (2 * T) := by rw [hX]; exact lin_sub _ _ _ hW0 (by rw [hsub, hMT]) (by rw [← hMT]; exact hge)
    refine ⟨1, by omega, by omega, fun hl => mkM M (2 * P + 1) (rest - M) (2 * T) hM ?_ (by omega) hMT2 hW ?_ (by omega) (by omega), fun hl => mkM M (2 * P + 1) (rest - M) (2 * T) hM ?_ (by omega) hMT2 hW ?_ (by omega) (by omega)⟩
    · rw [Nat.add_mul, Nat.one_mul, h1, hP2]; omega
    · rw [Nat.mul_assoc]; omega
    · rw [Nat.add_mul, Nat.one_mul, h1, hP2]; omega
    · rw [Nat.add_mul, Nat.mul_assoc]; omega
  · have hlt : rest * T < M * T := Nat.mul_lt_mul_of_pos_right (by omega) hT
    have hX : rest * (2 * T) = 2 * (rest * T) := Nat.mul_left_comm _ _ _
    have hW := words_lo H L _ h4 lb (by omega)
    rw [← hX] at hW
    refine ⟨0, by omega, by omega, fun hl => mkM M (2 * P) rest (2 * T) hM ?_ (by omega) hMT2 hW ?_ (by omega) (by omega), fun hl => mkM M (2 * P) rest (2 * T) hM ?_ (by omega) hMT2 hW ?_ (by omega) (by omega)⟩
    · rw [h1, hP2]
    · rw [Nat.mul_assoc]; omega
    · rw [h1, hP2]
    · rw [Nat.add_mul, Nat.mul_assoc]; omega

theorem done {A b H L R Q : Nat} (i : Inv A b 0 H L R Q) : A = Q * b + R ∧ R < b := by
  obtain ⟨P, rest, T, h1, h2, h3, h4, h5⟩ := i.ex
  have := i.rb
  simp at h1 h2
  omega
end Go.Proofs.Ytlgfnhapjhoelaa.Bt
