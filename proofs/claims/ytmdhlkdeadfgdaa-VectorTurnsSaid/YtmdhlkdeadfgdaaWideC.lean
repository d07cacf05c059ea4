/- What the program's own wide numbers answer: Div. -/
import Derived.Test.YtmdhlkdeadfgdaaWideB
import Derived.Test.YtmdhlkdeadfgdaaDivTwo
namespace Go.Proofs.Ytmdhlkdeadfgdaa
open Go.RowKit
set_option linter.unusedVariables false
set_option maxHeartbeats 400000

theorem two_digits (U l1 l0 Y D1 V D2 Q N t y : Int) (h1 : D1 = (U * 4294967296 + l1) / Y) (h2 : V = (U * 4294967296 + l1) % Y) (h3 : D2 = (V * 4294967296 + l0) / Y) (hY : 0 < Y)
    (hN : U * 18446744073709551616 + (l1 * 4294967296 + l0) = N * t) (l0b : 0 ≤ l0) : D1 * 4294967296 + D2 = N * t / Y ∧ (V * 4294967296 + l0) % Y = N * t % Y := by
  have e1 := Int.mul_ediv_add_emod (U * 4294967296 + l1) Y
  rw [← h1, ← h2] at e1
  have e : N * t = V * 4294967296 + l0 + Y * (D1 * 4294967296) := by
    rw [← hN, ← Int.mul_assoc]; omega
  rw [e, Int.add_mul_ediv_left _ _ (by omega), Int.add_mul_emod_self_left, ← h3]
  omega

/-- Two words by one: quotient and rest, where the quotient is a word. -/
theorem div64_any (h lo y : Int) (w : World) (hh : 0 ≤ h ∧ h < y) (hl : 0 ≤ lo ∧ lo ≤ 18446744073709551615) (hy : 1 ≤ y ∧ y ≤ 18446744073709551615) :
    Calls Try.prog 63 #[.int .u64 h, .int .u64 lo, .int .u64 y] w fun e w' => e = .returned (.tuple #[.int .u64 ((h * 18446744073709551616 + lo) / y), .int .u64 ((h * 18446744073709551616 + lo) % y)]) ∧ ∃ n, w' = w.drewN n := by
  by_cases h0 : h = 0
  · subst h0
    rw [Int.zero_mul, Int.zero_add]
    exact div64_0 lo y w hl hy
  · obtain ⟨h, rfl⟩ := Int.eq_ofNat_of_zero_le hh.1
    obtain ⟨lo, rfl⟩ := Int.eq_ofNat_of_zero_le hl.1
    obtain ⟨y, rfl⟩ := Int.eq_ofNat_of_zero_le (show 0 ≤ y by omega)
    obtain ⟨k, hk, es, Yl, Yu⟩ := Kn.shift_pair y (by omega) (by omega)
    obtain ⟨eU, hUY, eL, hN, hL⟩ := Kn.words h lo y k (by omega) (by omega) hk Yu
    have c1 : ((2 : Int) ^ k) = ((2 ^ k : Nat) : Int) := by simp
    have hT : 0 < 2 ^ k := Nat.pow_pos (by omega)
    generalize eUn : h * 2 ^ k + lo / 2 ^ (64 - k) = U at *
    generalize eLn : lo % 2 ^ (64 - k) * 2 ^ k = L at *
    have eY : IntKind.u64.wrap ((y : Int) * 2 ^ k) = ((y * 2 ^ k : Nat) : Int) := by
      rw [c1, ← Int.natCast_mul, IntKind.wrap_u64]; omega
    have hYt : ((y * 2 ^ k : Nat) : Int) = (y : Int) * ((2 ^ k : Nat) : Int) := Int.natCast_mul _ _
    generalize y * 2 ^ k = Y at *
    have hc := Kn.casts U L h lo (2 ^ k) hN
    have et : (2 : Int) ^ k = ((2 ^ k : Nat) : Int) := c1
    have ht0 : 0 < ((2 ^ k : Nat) : Int) := by omega
    have a1 : bits BinOp.and IntKind.u64 (Y : Int) 4294967295 = ((Y % 4294967296 : Nat) : Int) := Mul64.maskN Y Yu
    have a2 : bits BinOp.and IntKind.u64 (L : Int) 4294967295 = ((L % 4294967296 : Nat) : Int) := Mul64.maskN L hL
    have hd1 : ∃ l1 : Nat, L / 4294967296 = l1 ∧ l1 < 4294967296 := ⟨_, rfl, by omega⟩
    have hd2 : ∃ l0 : Nat, L % 4294967296 = l0 ∧ l0 < 4294967296 := ⟨_, rfl, by omega⟩
    have eL1 := Kn.half L
    obtain ⟨l1, el1, bl1⟩ := hd1
    obtain ⟨l0, el0, bl0⟩ := hd2
    rw [el1] at hc eL1
    rw [el0] at hc a2
    clear hN hL eUn eLn c1 hT el1 el0
    generalize ((2 ^ k : Nat) : Int) = T at *
    have okU := Kn.ok_mk (U : Int) l1 Y Yl Yu (Int.natCast_nonneg _) (Int.ofNat_lt.2 hUY) bl1
    have Y0 : (0 : Int) < Y := by omega
    have V0 : 0 ≤ ((U : Int) * 4294967296 + (l1 : Int)) % (Y : Int) := Int.emod_nonneg _ (by omega)
    have V1 : ((U : Int) * 4294967296 + (l1 : Int)) % (Y : Int) < Y := Int.emod_lt_of_pos _ (by omega)
    have eV := Kn.left okU rfl (Y : Int) (Kn.halves Y)
    obtain ⟨V, hV⟩ : ∃ V, V = ((U : Int) * 4294967296 + (l1 : Int)) % (Y : Int) := ⟨_, rfl⟩
    rw [← hV] at V0 V1 eV
    have okV := Kn.ok_mk V l0 Y Yl Yu V0 V1 bl0
    have eR := Kn.left okV rfl (Y : Int) (Kn.halves Y)
    have dd1 : Kn.dig (U : Int) l1 ((Y / 4294967296 : Nat) : Int) ((Y % 4294967296 : Nat) : Int) = ((U : Int) * 4294967296 + (l1 : Int)) / Y := by unfold Kn.dig; rw [← Kn.halves Y]
    have dd2 : Kn.dig V l0 ((Y / 4294967296 : Nat) : Int) ((Y % 4294967296 : Nat) : Int) = (V * 4294967296 + (l0 : Int)) / Y := by unfold Kn.dig; rw [← Kn.halves Y]
    obtain ⟨f1, f2⟩ := two_digits (U : Int) l1 l0 Y _ V _ 0 ((h : Int) * 18446744073709551616 + lo) T y dd1 hV dd2 Y0 hc (Int.natCast_nonneg _)
    obtain ⟨u1, u2⟩ := Kn.unshift ((h : Int) * 18446744073709551616 + lo) y T ht0
    have b1 : 1 ≤ (h : Int) ∧ (h : Int) < y := by omega
    have b2 : 0 ≤ (k : Int) ∧ (k : Int) ≤ 63 := by omega
    have es' : 64 - (Lib.bitLen ((y : Int)).toNat : Int) = k := by rw [Int.toNat_natCast]; exact es
    have tk : ((k : Int)).toNat = k := Int.toNat_natCast k
    have tk2 : (64 - (k : Int)).toNat = 64 - k := by omega
    rw [← tk] at eY eL
    refine div64_1 (h : Int) lo y k Y U L _ _ _ _ _ _ V _ _ _ _ _ _ w b1 hl hy es' b2 eY eL ?_ (Kn.half Y) a1 eL1 a2 okU (Kn.halves Y) rfl rfl okV eV rfl rfl rfl rfl ?_ ?_
    · rw [tk2, tk]; exact eU
    · rw [f1, hYt]; exact u1
    · rw [eR, f2, hYt, tk, et]; exact u2

/-- The quotient of the high word, rounded down. -/
theorem floor_parts (a b : Int) (hb : 1 ≤ b) : (a.tmod b < 0 ∧ a / b = a.tdiv b - 1 ∧ a % b = a.tmod b + b) ∨ (0 ≤ a.tmod b ∧ a / b = a.tdiv b ∧ a % b = a.tmod b) := by
  have e := Int.mul_tdiv_add_tmod a b
  have n := Int.natAbs_tmod a b
  have l : (a.natAbs % b.natAbs) < b.natAbs := Nat.mod_lt _ (by omega)
  by_cases h : a.tmod b < 0
  · refine .inl ⟨h, ?_⟩
    refine (Int.ediv_emod_unique (by omega)).2 ⟨?_, by omega, by omega⟩
    rw [Int.mul_sub]; omega
  · refine .inr ⟨by omega, ?_⟩
    exact (Int.ediv_emod_unique (by omega)).2 ⟨by omega, by omega, by omega⟩

theorem tdiv_in (a b : Int) (ha : -9223372036854775808 ≤ a ∧ a ≤ 9223372036854775807) (hb : 1 ≤ b) : -9223372036854775808 ≤ a.tdiv b ∧ a.tdiv b ≤ 9223372036854775807 := by
  by_cases h : 0 ≤ a
  · rw [Int.tdiv_eq_ediv_of_nonneg h]
    have := IntWalk.tdiv_le a b h hb
    omega
  · have e : a.tdiv b = -((-a).tdiv b) := by rw [Int.neg_tdiv]; omega
    rw [e, Int.tdiv_eq_ediv_of_nonneg (by omega)]
    have := IntWalk.tdiv_le (-a) b (by omega) hb
    omega

theorem wfloor_any (a b : Int) (w : World) (ha : -9223372036854775808 ≤ a ∧ a ≤ 9223372036854775807) (hb : 1 ≤ b ∧ b ≤ 9223372036854775807) :
    Calls Try.prog 62 #[.int .i64 a, .int .i64 b] w fun e w' => e = .returned (.tuple #[.int .i64 (a / b), .int .u64 (a % b)]) ∧ ∃ n, w' = w.drewN n := by
  have h0 : (b == 0) = false := by simp; omega
  have h0' : ¬ b = 0 := by omega
  have m0 := Int.emod_nonneg a (b := b) (by omega)
  have m1 := Int.emod_lt_of_pos a (b := b) (by omega)
  have d0 : -9223372036854775808 ≤ a / b ∧ a / b ≤ 9223372036854775807 := by
    have e := Int.mul_ediv_add_emod a b
    refine ⟨(Int.le_ediv_iff_mul_le (by omega)).2 ?_, ?_⟩
    · have := Int.mul_le_mul_of_nonneg_left (show 1 ≤ b from hb.1) (show (0 : Int) ≤ 9223372036854775808 by omega); omega
    · have := Int.ediv_lt_of_lt_mul (a := a) (b := 9223372036854775808) (c := b) (by omega) (by have := Int.mul_le_mul_of_nonneg_left (show 1 ≤ b from hb.1) (show (0 : Int) ≤ 9223372036854775808 by omega); omega); omega
  have hf := floor_parts a b hb.1
  rcases hf with ⟨f1, f2, f3⟩ | ⟨f1, f2, f3⟩
  all_goals
    have F := Lib.hid (And.intro f2 f3)
    obtain ⟨q, hq⟩ : ∃ q, a.tdiv b = q := ⟨_, rfl⟩
    obtain ⟨r, hr⟩ : ∃ r, a.tmod b = r := ⟨_, rfl⟩
    rw [hq] at f2
    rw [hr] at f1 f3
    have qb : -9223372036854775808 ≤ q ∧ q ≤ 9223372036854775807 := by rw [← hq]; exact tdiv_in a b ha hb.1
    rw [f2, f3]
    rw [f2] at d0
    rw [f3] at m0 m1
    clear f2 f3 F
    go_enter Try.func62, Try.ntmps62
    go_wp2_with fail
    go_quiet (fail)
    go_wp2
    go_ret2
    exact ⟨rfl, _, rfl⟩

theorem div_err (a b : Int) (w : World) (hb : b ≤ 0) :
    Calls Try.prog 50 #[W a, .int .i64 b] w fun e w' => e = .returned (.tuple #[W 0, .int .i64 0, .int .i64 1]) ∧ Below w.heap.size w w' := by
  have e1 := hi_0
  have e2 := lo_0
  go_enter Try.func50, Try.ntmps50
  go_wp2
  refine bodyPost_ret (by simp [results, Try.results50, go_sem]; rfl) rfl ⟨?_, ?_⟩
  · rw [W, hi_0, lo_0]
  · repeat (first | exact Below.refl _ _ | refine Below.alloc ?_ (by simp; try omega) _)
theorem div_words (a b : Int) (ia : In a) (hb : 1 ≤ b ∧ b ≤ 9223372036854775807) :
    hi (a / b) = hi a / b ∧ lo (a / b) = (hi a % b * 18446744073709551616 + lo a) / b ∧ a % b = (hi a % b * 18446744073709551616 + lo a) % b := by
  have s := split_in a ia
  have ha := hi_bd a
  have la := lo_bd a
  generalize hi a = x at *
  generalize lo a = y at *
  have e := Int.mul_ediv_add_emod x b
  have m0 := Int.emod_nonneg x (b := b) (by omega)
  have m1 := Int.emod_lt_of_pos x (b := b) (by omega)
  have d : a / b = x / b * 18446744073709551616 + (x % b * 18446744073709551616 + y) / b ∧ a % b = (x % b * 18446744073709551616 + y) % b := by
    have e2 : a = x % b * 18446744073709551616 + y + b * (x / b * 18446744073709551616) := by
      rw [s, ← Int.mul_assoc]; omega
    rw [e2, Int.add_mul_ediv_left _ _ (by omega), Int.add_mul_emod_self_left]
    omega
  have u0 : 0 ≤ (x % b * 18446744073709551616 + y) / b := Int.ediv_nonneg (by omega) (by omega)
  have u1 : (x % b * 18446744073709551616 + y) / b < 18446744073709551616 := by
    refine Int.ediv_lt_of_lt_mul (by omega) ?_
    omega
  have q : -9223372036854775808 ≤ x / b ∧ x / b ≤ 9223372036854775807 := by
    refine ⟨(Int.le_ediv_iff_mul_le (by omega)).2 (by omega), ?_⟩
    have := Int.ediv_lt_of_lt_mul (a := x) (b := 9223372036854775808) (c := b) (by omega) (by omega)
    omega
  rw [d.1]
  exact ⟨hi_mk _ _ q ⟨u0, by omega⟩, lo_mk _ _ ⟨u0, by omega⟩, d.2⟩

theorem div_any (a b : Int) (w : World) (ia : In a) (hb : 1 ≤ b ∧ b ≤ 9223372036854775807) :
    Calls Try.prog 50 #[W a, .int .i64 b] w fun e w' => e = .returned (.tuple #[W (a / b), .int .i64 (a % b), .int .i64 0]) ∧ Below w.heap.size w w' := by
  have ha := hi_bd a
  have la := lo_bd a
  have m0 := Int.emod_nonneg (hi a) (b := b) (by omega)
  have m1 := Int.emod_lt_of_pos (hi a) (b := b) (by omega)
  have n0 := Int.emod_nonneg (hi a % b * 18446744073709551616 + lo a) (b := b) (by omega)
  have n1 := Int.emod_lt_of_pos (hi a % b * 18446744073709551616 + lo a) (b := b) (by omega)
  have ub : IntKind.u64.wrap b = b := by rw [IntKind.wrap_u64]; omega
  have Fin := Lib.hid (div_words a b ia hb)
  by_cases h0 : hi a = 0
  · rw [h0, Int.zero_emod, Int.zero_mul, Int.zero_add] at n0 n1
    go_enter Try.func50, Try.ntmps50
    go_wp2_with fail
    refine (div64_any 0 (lo a) b _ (by omega) la (by omega)).mono ?_
    rintro e w' ⟨rfl, n1, rfl⟩
    go_wp2
    refine bodyPost_ret (by simp [results, Try.results50, go_sem]; rfl) rfl ⟨?_, ?_⟩
    · obtain ⟨f1, f2, f3⟩ := Fin.out
      rw [h0, Int.zero_ediv] at f1
      rw [h0, Int.zero_emod, Int.zero_mul, Int.zero_add] at f2 f3
      rw [W, f1, f2, f3]

    · repeat (first | exact Below.refl _ _ | refine below_dN ?_ _ | refine Below.setCell ?_ (by simp; try omega) _ | refine Below.alloc ?_ (by simp; try omega) _)
  · have h1 : (hi a == 0) = false := by simp; omega
    go_enter Try.func50, Try.ntmps50
    go_wp2_with fail
    refine (wfloor_any (hi a) b _ ha hb).mono ?_
    rintro e w' ⟨rfl, n1, rfl⟩
    go_wp2_with fail
    refine (div64_any (hi a % b) (lo a) b _ ⟨m0, m1⟩ la (by omega)).mono ?_
    rintro e w' ⟨rfl, n2, rfl⟩
    go_wp2
    refine bodyPost_ret (by simp [results, Try.results50, go_sem]; rfl) rfl ⟨?_, ?_⟩
    · obtain ⟨f1, f2, f3⟩ := Fin.out
      rw [W, f1, f2, f3]
    · repeat (first | exact Below.refl _ _ | refine below_dN ?_ _ | refine Below.setCell ?_ (by simp; try omega) _ | refine Below.alloc ?_ (by simp; try omega) _)
end Go.Proofs.Ytmdhlkdeadfgdaa
