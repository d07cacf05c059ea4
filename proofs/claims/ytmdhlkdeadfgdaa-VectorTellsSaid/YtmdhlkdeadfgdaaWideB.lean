/- What the program's own wide numbers answer: Mul, Div. -/
import Derived.Test.YtmdhlkdeadfgdaaWideA
import Derived.Test.YtmdhlkdeadfgdaaDivNum
import Derived.Test.YtmdhlkdeadfgdaaShelf
namespace Go.Proofs.Ytmdhlkdeadfgdaa
open Go.RowKit
set_option linter.unusedVariables false
set_option maxHeartbeats 400000

theorem mul64_any (x y : Int) (w : World) (hx : 0 ≤ x ∧ x ≤ 18446744073709551615) (hy : 0 ≤ y ∧ y ≤ 18446744073709551615) :
    Calls Try.prog 64 #[.int .u64 x, .int .u64 y] w fun e w' => e = .returned (.tuple #[.int .u64 (x * y / 18446744073709551616), .int .u64 (x * y % 18446744073709551616)]) ∧ w = w' := by
  obtain ⟨x, rfl⟩ := Int.eq_ofNat_of_zero_le hx.1
  obtain ⟨y, rfl⟩ := Int.eq_ofNat_of_zero_le hy.1
  refine (Try.bits_Mul64 x y (by omega) (by omega) w).mono ?_
  rintro e w' ⟨rfl, rfl⟩
  refine ⟨?_, rfl⟩
  rw [Int.natCast_ediv, Int.natCast_emod, Int.natCast_mul]
  rfl

/-- A word's sign, laid over another word. -/
def msk (a b : Int) : Int := if a < 0 then b else 0
theorem and_neg1 (b : Int) (hb : -9223372036854775808 ≤ b ∧ b ≤ 9223372036854775807) : bits .and .i64 (-1) b = b := by
  show IntKind.i64.wrap ((BitVec.ofInt 64 (-1) &&& BitVec.ofInt 64 b).toNat : Nat) = b
  have : BitVec.ofInt 64 (-1) = BitVec.allOnes 64 := by decide
  rw [this, BitVec.allOnes_and, BitVec.toNat_ofInt, IntKind.wrap_i64]
  omega
theorem and_0 (b : Int) : bits .and .i64 0 b = 0 := by
  show IntKind.i64.wrap ((BitVec.ofInt 64 0 &&& BitVec.ofInt 64 b).toNat : Nat) = 0
  have : BitVec.ofInt 64 0 = 0#64 := by decide
  rw [this, BitVec.zero_and]
  decide
theorem and_sign (a b : Int) (ha : -9223372036854775808 ≤ a ∧ a ≤ 9223372036854775807) (hb : -9223372036854775808 ≤ b ∧ b ≤ 9223372036854775807) : bits .and .i64 (hi a) b = msk a b := by
  unfold msk
  rw [hi_of a ha]
  split
  · exact and_neg1 b hb
  · exact and_0 b

theorem mul_words (a b : Int) (ha : -9223372036854775808 ≤ a ∧ a ≤ 9223372036854775807) (hb : -9223372036854775808 ≤ b ∧ b ≤ 9223372036854775807) :
    wrap64 (IntKind.u64.wrap (IntKind.u64.wrap (IntKind.u64.wrap a * IntKind.u64.wrap b / 18446744073709551616 - IntKind.u64.wrap (msk a b)) - IntKind.u64.wrap (msk b a))) = hi (a * b) ∧
    IntKind.u64.wrap a * IntKind.u64.wrap b % 18446744073709551616 = lo (a * b) := by
  have ea : IntKind.u64.wrap a = a + (if a < 0 then 18446744073709551616 else 0) := by rw [IntKind.wrap_u64]; split <;> omega
  have eb : IntKind.u64.wrap b = b + (if b < 0 then 18446744073709551616 else 0) := by rw [IntKind.wrap_u64]; split <;> omega
  have e1 : IntKind.u64.wrap (msk a b) = msk a b % 18446744073709551616 := by rw [IntKind.wrap_u64]
  have e2 : IntKind.u64.wrap (msk b a) = msk b a % 18446744073709551616 := by rw [IntKind.wrap_u64]
  rw [ea, eb, e1, e2]
  simp only [IntKind.wrap_u64]
  unfold msk hi lo wrap64
  by_cases h1 : a < 0
  · by_cases h2 : b < 0
    · rw [if_pos h1, if_pos h2, if_pos h1, if_pos h2]
      have e : (a + 18446744073709551616) * (b + 18446744073709551616) = a * b + (a + b) * 18446744073709551616 + 18446744073709551616 * 18446744073709551616 := by
        rw [Int.add_mul, Int.mul_add, Int.mul_add, Int.add_mul]; omega
      rw [e]; generalize a * b = p; omega
    · rw [if_pos h1, if_neg h2, if_pos h1, if_neg h2]
      have e : (a + 18446744073709551616) * (b + 0) = a * b + b * 18446744073709551616 := by rw [Int.add_zero, Int.add_mul]; omega
      rw [e]; generalize a * b = p; omega
  · by_cases h2 : b < 0
    · rw [if_neg h1, if_pos h2, if_neg h1, if_pos h2]
      have e : (a + 0) * (b + 18446744073709551616) = a * b + a * 18446744073709551616 := by rw [Int.add_zero, Int.mul_add]
      rw [e]; generalize a * b = p; omega
    · rw [if_neg h1, if_neg h2, if_neg h1, if_neg h2]
      rw [Int.add_zero, Int.add_zero]; generalize a * b = p; omega

theorem mul_any (a b : Int) (w : World) (ha : -9223372036854775808 ≤ a ∧ a ≤ 9223372036854775807) (hb : -9223372036854775808 ≤ b ∧ b ≤ 9223372036854775807) :
    Calls Try.prog 51 #[.int .i64 a, .int .i64 b] w fun e w' => e = .returned (W (a * b)) ∧ Below w.heap.size w w' := by
  have ua : 0 ≤ IntKind.u64.wrap a ∧ IntKind.u64.wrap a ≤ 18446744073709551615 := by rw [IntKind.wrap_u64]; omega
  have ub : 0 ≤ IntKind.u64.wrap b ∧ IntKind.u64.wrap b ≤ 18446744073709551615 := by rw [IntKind.wrap_u64]; omega
  have s1 := and_sign a b ha hb
  have s2 := and_sign b a hb ha
  have Fin := Lib.hid (mul_words a b ha hb)
  go_enter Try.func51, Try.ntmps51
  go_wp2_with fail
  refine (mul64_any _ _ _ ua ub).mono ?_
  rintro e w' ⟨rfl, rfl⟩
  go_wp2_with fail
  refine (signWord_any _ _ ha).mono ?_
  rintro e w' ⟨rfl, rfl⟩
  go_wp2_with fail
  refine (signWord_any _ _ hb).mono ?_
  rintro e w' ⟨rfl, rfl⟩
  go_wp2
  refine bodyPost_ret (by simp [results, Try.results51, go_sem]; rfl) rfl ⟨?_, ?_⟩
  · exact ret_agg2 Fin.out.1 Fin.out.2
  · repeat (first | exact Below.refl _ _ | refine Below.alloc ?_ (by simp; try omega) _)

theorem lz_any (y : Int) (w : World) (hy : 1 ≤ y ∧ y ≤ 18446744073709551615) :
    Calls Try.prog 72 #[.int .u64 y] w fun e w' => e = .returned (.int .i64 (64 - (Lib.bitLen y.toNat : Int))) ∧ w = w' := by
  refine (Try.bits_LeadingZeros64 y w (by omega) (by omega)).mono ?_
  rintro e w' ⟨rfl, rfl⟩
  exact ⟨rfl, rfl⟩

theorem div64_0 (lo y : Int) (w : World) (hl : 0 ≤ lo ∧ lo ≤ 18446744073709551615) (hy : 1 ≤ y ∧ y ≤ 18446744073709551615) :
    Calls Try.prog 63 #[.int .u64 0, .int .u64 lo, .int .u64 y] w fun e w' => e = .returned (.tuple #[.int .u64 (lo / y), .int .u64 (lo % y)]) ∧ ∃ n, w' = w.drewN n := by
  have h1 : (y == 0) = false := by simp; omega
  have h2 : decide (y ≤ 0) = false := by simp; omega
  have h3 : ¬ y = 0 := by omega
  go_enter Try.func63, Try.ntmps63
  go_wp2_with fail
  go_quiet (fail)
  go_wp2
  go_ret2
  exact ⟨rfl, _, rfl⟩

/-- The walk's numbers, under names. -/
theorem div64_1 (h lo y s Y U L y1 y0 l1 l0 q1 r1 V q2 r2 D1 D2 Q R : Int) (w : World) (hh : 1 ≤ h ∧ h < y) (hl : 0 ≤ lo ∧ lo ≤ 18446744073709551615) (hy : 1 ≤ y ∧ y ≤ 18446744073709551615) (es : 64 - (Lib.bitLen y.toNat : Int) = s) (hs : 0 ≤ s ∧ s ≤ 63)
    (eY : IntKind.u64.wrap (y * 2 ^ s.toNat) = Y) (eL : IntKind.u64.wrap (lo * 2 ^ s.toNat) = L)
    (eU : bits BinOp.or IntKind.u64 (IntKind.u64.wrap (h * 2 ^ s.toNat)) (lo / 2 ^ (64 - s).toNat) = U)
    (ey1 : Y / 4294967296 = y1) (ey0 : bits BinOp.and IntKind.u64 Y 4294967295 = y0) (el1 : L / 4294967296 = l1) (el0 : bits BinOp.and IntKind.u64 L 4294967295 = l0)
    (okU : Kn.Ok U l1 y1 y0) (hYy : Y = y1 * 4294967296 + y0)
    (eq1 : U / y1 = q1) (er1 : U - q1 * y1 = r1)
    (okV : Kn.Ok V l0 y1 y0) (eV : IntKind.u64.wrap (IntKind.u64.wrap (IntKind.u64.wrap (U * 4294967296) + l1) - IntKind.u64.wrap (D1 * Y)) = V)
    (eD1 : Kn.dig U l1 y1 y0 = D1) (eD2 : Kn.dig V l0 y1 y0 = D2)
    (eq2 : V / y1 = q2) (er2 : V - q2 * y1 = r2)
    (eQ : D1 * 4294967296 + D2 = Q)
    (eR : IntKind.u64.wrap (IntKind.u64.wrap (IntKind.u64.wrap (V * 4294967296) + l0) - IntKind.u64.wrap (D2 * Y)) / 2 ^ s.toNat = R) :
    Calls Try.prog 63 #[.int .u64 h, .int .u64 lo, .int .u64 y] w fun e w' => e = .returned (.tuple #[.int .u64 Q, .int .u64 R]) ∧ ∃ n, w' = w.drewN n := by
  have h1 : (y == 0) = false := by simp; omega
  have h2 : decide (y ≤ h) = false := by simp; omega
  have h4 : (h == 0) = false := by simp; omega
  have h3 : ¬ y = 0 := by omega
  have y1l := okU.y1l
  have y1u := okU.y1u
  have y0l := okU.y0l
  have y0u := okU.y0u
  have h5 : ¬ y1 = 0 := by omega
  have Ul := okU.ul
  have Uu : U ≤ 18446744073709551615 := by have := okU.uu; omega
  have Vl := okV.ul
  have Vu : V ≤ 18446744073709551615 := by have := okV.uu; omega
  have l1l := okU.u1l
  have l1u := okU.u1u
  have l0l := okV.u1l
  have l0u := okV.u1u
  have iU := Kn.start okU
  have iV := Kn.start okV
  rw [eq1, er1] at iU
  rw [eq2, er2] at iV
  have p1 : 0 ≤ q1 * y1 ∧ q1 * y1 ≤ 18446744073709551615 := ⟨Int.mul_nonneg iU.ql (by omega), by have := iU.sum; have := iU.rl; omega⟩
  have p2 : 0 ≤ q2 * y1 ∧ q2 * y1 ≤ 18446744073709551615 := ⟨Int.mul_nonneg iV.ql (by omega), by have := iV.sum; have := iV.rl; omega⟩
  have q1l := iU.ql
  have q1u := Kn.q_bd okU iU
  have q2l := iV.ql
  have q2u := Kn.q_bd okV iV
  have r1l := iU.rl
  have r1u := iU.ru
  have r2l := iV.rl
  have r2u := iV.ru
  have rl1 : 0 ≤ U - q1 * y1 := by omega
  have rl2 : 0 ≤ V - q2 * y1 := by omega
  have d1l : 0 ≤ D1 := by rw [← eD1]; exact Kn.dig_nonneg okU
  have d1u : D1 < 4294967296 := by rw [← eD1]; exact Kn.dig_lt okU
  have d2l : 0 ≤ D2 := by rw [← eD2]; exact Kn.dig_nonneg okV
  have d2u : D2 < 4294967296 := by rw [← eD2]; exact Kn.dig_lt okV
  have Hs := Lib.hid es
  have HU := Lib.hid (And.intro okU iU)
  have HV := Lib.hid (And.intro okV iV)
  have HD1 := Lib.hid eD1
  have HD2 := Lib.hid eD2
  have Hq1 := Lib.hid eq1
  have Hq2 := Lib.hid eq2
  clear es okU okV iU iV hYy eD1 eD2
  go_enter Try.func63, Try.ntmps63
  go_wp2_with fail
  refine (lz_any y _ hy).mono ?_
  rintro e w' ⟨rfl, rfl⟩
  rw [Hs.out]
  go_wp2
  go_loop [15, 16] (fun q r => ∃ q0 r0 : Int, q = .int .u64 q0 ∧ r = .int .u64 r0 ∧ Kn.Inv U l1 y1 y0 q0 r0) (fun q _ => (intOf q).toNat)
  case atStart => exact ⟨U / y1, r1, rfl, rfl, by rw [Hq1.out]; exact HU.out.2⟩
  case round =>
    obtain ⟨q0, r0, rfl, rfl, iv⟩ := hrel
    have Hi := Lib.hid iv
    have ql := iv.ql
    have qu := Kn.q_bd HU.out.1 iv
    have rl := iv.rl
    have ru := iv.ru
    have Hc := Lib.hid (Kn.ways HU.out.1 iv D1 HD1.out)
    clear iv
    rcases Hc.out with ⟨c1, c2⟩ | ⟨⟨c1, cl, pl, pu⟩, ⟨b1, b2⟩, c3, c2⟩ | ⟨c1, c2, cD⟩ | ⟨⟨c1, cl, pl, pu⟩, ⟨b1, b2⟩, c3, c2, cD⟩ | ⟨⟨c1, pl, pu⟩, ⟨b1, b2⟩, c3, rfl⟩
    · clear Hc
      have rn : 0 ≤ r0 + y1 := by omega
      go_wp2
      go_round
      case rel => exact ⟨q0 - 1, r0 + y1, rfl, rfl, Kn.more HU.out.1 Hi.out (.inl c1) c2⟩
      case measure => simp [intOf]; omega
    · clear Hc
      go_wp2
      go_round
      case rel => exact ⟨q0 - 1, r0 + y1, rfl, rfl, Kn.more HU.out.1 Hi.out (.inr c3) c2⟩
      case measure => simp [intOf]; omega
    all_goals
      clear Hc
      go_wp2
      go_loop [18, 16] (fun q r => ∃ q0 r0 : Int, q = .int .u64 q0 ∧ r = .int .u64 r0 ∧ Kn.Inv V l0 y1 y0 q0 r0) (fun q _ => (intOf q).toNat)
      case atStart => exact ⟨q2, r2, rfl, rfl, HV.out.2⟩
      case round =>
        obtain ⟨q0, r0, rfl, rfl, iv⟩ := hrel
        have Hi := Lib.hid iv
        have ql := iv.ql
        have qu := Kn.q_bd HV.out.1 iv
        have rl := iv.rl
        have ru := iv.ru
        have Hc := Lib.hid (Kn.ways HV.out.1 iv D2 HD2.out)
        clear iv
        rcases Hc.out with ⟨c1, c2⟩ | ⟨⟨c1, cl, pl, pu⟩, ⟨b1, b2⟩, c3, c2⟩ | ⟨c1, c2, cD⟩ | ⟨⟨c1, cl, pl, pu⟩, ⟨b1, b2⟩, c3, c2, cD⟩ | ⟨⟨c1, pl, pu⟩, ⟨b1, b2⟩, c3, rfl⟩
        · clear Hc
          have rn : 0 ≤ r0 + y1 := by omega
          go_wp2
          go_round
          case rel => exact ⟨q0 - 1, r0 + y1, rfl, rfl, Kn.more HV.out.1 Hi.out (.inl c1) c2⟩
          case measure => simp [intOf]; omega
        · clear Hc
          go_wp2
          go_round
          case rel => exact ⟨q0 - 1, r0 + y1, rfl, rfl, Kn.more HV.out.1 Hi.out (.inr c3) c2⟩
          case measure => simp [intOf]; omega
        all_goals
          clear Hc
          go_wp2
          go_ret2
          exact ⟨rfl, 0, rfl⟩
end Go.Proofs.Ytmdhlkdeadfgdaa
