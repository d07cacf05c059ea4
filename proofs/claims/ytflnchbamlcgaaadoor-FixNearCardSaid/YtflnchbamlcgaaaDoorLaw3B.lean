/- The walks of FixText, FixNear. -/
import Derived.Test.YtflnchbamlcgaaaDoorLaw3A
import Derived.Test.YtflnchbamlcgaaaDoorQuot
namespace Go.Proofs.YtflnchbamlcgaaaDoor
open Go.RowKit
set_option linter.unusedVariables false
set_option linter.unusedSimpArgs false
set_option maxHeartbeats 2000000

theorem walk_FixText (n : Int) (s : ByteArray) (w : World) (hT : Tab w) (hn : -9223372036854775808 ≤ n ∧ n ≤ 9223372036854775807) (hs : s.size < 9223372036854775808) :
    Calls Tryd.prog 4 #[.int .i64 n, .string s] w fun e w' => e = .returned (.bool true) ∧ Below w.heap.size w w' := by
  have HN := Lib.hid hn
  have HS := Lib.hid hs
  obtain ⟨n1, x1, h1⟩ := parseV_parts s.data.toList
  have H1 := Lib.hid h1
  obtain ⟨t, ht⟩ : ∃ t : ByteArray, t = ⟨(pr n).toArray⟩ := ⟨_, rfl⟩
  have HP := Lib.hid (show S (pr n) = .string t by rw [ht]; rfl)
  clear hn hs h1 ht
  by_cases h : 100 < s.size
  · have r1 : decide (100 < (s.size : Int)) = true := by simp; omega
    have r2 : decide (100 < s.size) = true := by simp; omega
    go_enter Tryd.func4, Tryd.ntmps4
    go_wp2_with fail
    refine (shown_any _ (by repeat (first | exact hT | refine Tab.step ?_ (by assumption)))).mono ?_
    rintro e w1 ⟨rfl, b1⟩
    go_wp2
    go_ret
    exact ⟨rfl, b1⟩
  · have r1 : decide (100 < (s.size : Int)) = false := by simp; omega
    have r2 : decide (100 < s.size) = false := by simp; omega
    go_enter Tryd.func4, Tryd.ntmps4
    go_wp2_with fail
    refine (shown_any _ (by repeat (first | exact hT | refine Tab.step ?_ (by assumption)))).mono ?_
    rintro e w1 ⟨rfl, b1⟩
    go_wp2_with fail
    refine (parse_any s _ HS.out).mono ?_
    rintro e w2 ⟨rfl, b2⟩
    rw [H1.out]
    go_wp2_with fail
    refine (rparse_any s _ HS.out).mono ?_
    rintro e w3 ⟨rfl, rfl⟩
    rw [H1.out]
    go_wp2_with fail
    refine (print_any n _ HN.out (by repeat (first | exact hT | refine Tab.step ?_ (by assumption)))).mono ?_
    rintro e w4 ⟨rfl, b4⟩
    rw [HP.out]
    go_wp2_with fail
    refine (rprint_any n _ HN.out).mono ?_
    rintro e w5 ⟨rfl, b5⟩
    rw [HP.out]
    go_wp2
    go_ret
    have z1 := b1.size; have z2 := b2.size; have z4 := b4.size
    exact ⟨rfl, ((b1.trans (b2.mono z1)).trans (b4.mono (by omega))).trans (b5.mono (by omega))⟩

theorem walk_FixNear (a b : Int) (w : World) (hT : Tab w) (ha : -2147483648 ≤ a ∧ a ≤ 2147483647) (hb : -2147483648 ≤ b ∧ b ≤ 2147483647) :
    Calls Tryd.prog 6 #[.int .i32 a, .int .i32 b] w fun e w' => e = .returned (.bool true) ∧ Below w.heap.size w w' := by
  by_cases h : b ≤ 0
  · have r1 : decide (b ≤ 0) = true := by simpa using h
    go_enter Tryd.func6, Tryd.ntmps6
    go_wp2_with fail
    refine (shown_any _ (by repeat (first | exact hT | refine Tab.step ?_ (by assumption)))).mono ?_
    rintro e w1 ⟨rfl, b1⟩
    go_wp2
    go_ret
    exact ⟨rfl, b1⟩
  · have r1 : decide (b ≤ 0) = false := by simpa using h
    obtain ⟨q, hq⟩ : ∃ q, a / b = q := ⟨_, rfl⟩
    obtain ⟨r, hr⟩ : ∃ r, nearQ a b = r := ⟨_, rfl⟩
    have q1 := quot_small a b 2147483648 (by omega) (by omega) (by omega)
    have q2 := near_small a b 2147483648 (by omega) (by omega) (by omega)
    have q3 := floor_near a b (by omega)
    have q4 := round_near a b (by omega)
    rw [hq] at q1 q3
    rw [hr] at q2 q4
    have F1 := Lib.hid (scaleV_fit a b q (by omega) hq (by omega))
    have F2 := Lib.hid (nearV_fit a b r (by omega) hr (by omega))
    obtain ⟨m, hm⟩ : ∃ m, q * b = m := ⟨_, rfl⟩
    obtain ⟨k, hk⟩ : ∃ k, r * b = k := ⟨_, rfl⟩
    rw [hm] at q3
    rw [hk] at q4
    have e1 : IntKind.i64.wrap m = m := IntWalk.i64_in _ (by omega)
    have e2 : IntKind.i64.wrap (a - m) = a - m := IntWalk.i64_in _ (by omega)
    have e3 : IntKind.i64.wrap k = k := IntWalk.i64_in _ (by omega)
    have e4 : IntKind.i64.wrap (k - a) = k - a := IntWalk.i64_in _ (by omega)
    have e5 : IntKind.i64.wrap (2 * (k - a)) = 2 * (k - a) := IntWalk.i64_in _ (by omega)
    have e6 : IntKind.i64.wrap (-b) = -b := IntWalk.i64_in _ (by omega)
    have c1 : decide (0 ≤ a - m) = true := by simp; omega
    have c2 : decide (a - m < b) = true := by simp; omega
    have c3 : decide (2 * (k - a) ≤ b) = true := by simp; omega
    have c4 : decide (-b < 2 * (k - a)) = true := by simp; omega
    have A1 : -9223372036854775808 ≤ a ∧ a ≤ 9223372036854775807 := by omega
    have B1 : -9223372036854775808 ≤ b ∧ b ≤ 9223372036854775807 := by omega
    clear hq hr
    go_enter Tryd.func6, Tryd.ntmps6
    go_wp2_with fail
    refine (shown_any _ (by repeat (first | exact hT | refine Tab.step ?_ (by assumption)))).mono ?_
    rintro e w1 ⟨rfl, b1⟩
    go_wp2_with fail
    refine (floor_any a b _ A1 B1).mono ?_
    rintro e w2 ⟨rfl, b2⟩
    rw [F1.out]
    go_wp2_with fail
    refine (round_any a b _ A1 B1).mono ?_
    rintro e w3 ⟨rfl, b3⟩
    rw [F2.out]
    go_wp2
    go_ret
    have z1 := b1.size; have z2 := b2.size
    refine ⟨?_, (b1.trans (b2.mono z1)).trans (b3.mono (by omega))⟩
    simp [*]
theorem walk_FixScales (a b k : Int) (w : World) (hT : Tab w) (ha : -2147483648 ≤ a ∧ a ≤ 2147483647) (hb : -2147483648 ≤ b ∧ b ≤ 2147483647) (hk : 0 ≤ k ∧ k ≤ 65535) :
    Calls Tryd.prog 7 #[.int .i32 a, .int .i32 b, .int .u16 k] w fun e w' => e = .returned (.bool true) ∧ Below w.heap.size w w' := by
  by_cases h : b ≤ 0 ∨ k = 0
  · by_cases hb0 : b ≤ 0
    · have r1 : decide (b ≤ 0) = true := by simpa using hb0
      go_enter Tryd.func7, Tryd.ntmps7
      go_wp2_with fail
      refine (shown_any _ (by repeat (first | exact hT | refine Tab.step ?_ (by assumption)))).mono ?_
      rintro e w1 ⟨rfl, b1⟩
      go_wp2
      go_ret
      exact ⟨rfl, b1⟩
    · have r1 : decide (b ≤ 0) = false := by simpa using hb0
      have k0 : k = 0 := by omega
      have r2 : (k == 0) = true := by simp; exact k0
      have KK := Lib.hid k0
      clear k0 h
      go_enter Tryd.func7, Tryd.ntmps7
      go_wp2_with fail
      refine (shown_any _ (by repeat (first | exact hT | refine Tab.step ?_ (by assumption)))).mono ?_
      rintro e w1 ⟨rfl, b1⟩
      go_wp2
      go_ret
      exact ⟨rfl, b1⟩
  · have r1 : decide (b ≤ 0) = false := by simp; omega
    have r2 : (k == 0) = false := by simp; omega
    have k1 : 1 ≤ k := by omega
    have b1' : 1 ≤ b := by omega
    have pa := prod_small a k ha hk
    have pb := prod_small b k hb hk
    obtain ⟨q, hq⟩ : ∃ q, a / b = q := ⟨_, rfl⟩
    obtain ⟨r, hr⟩ : ∃ r, nearQ a b = r := ⟨_, rfl⟩
    have q1 := quot_small a b 2147483648 (by omega) (by omega) (by omega)
    have q2 := near_small a b 2147483648 (by omega) (by omega) (by omega)
    rw [hq] at q1
    rw [hr] at q2
    have pb1 : 1 ≤ b * k := by
      have := Int.mul_le_mul b1' k1 (by omega) (by omega)
      omega
    have F1 := Lib.hid (scaleV_fit' a b b a b1' (Int.mul_ediv_cancel a (by omega)) (by omega))
    have F2 := Lib.hid (nearV_fit' a b b a b1' (near_self a b b1') (by omega))
    have F3 := Lib.hid (scaleV_fit a b q b1' hq (by omega))
    have F4 := Lib.hid (scaleV_fit (a * k) (b * k) q pb1 (by rw [div_times a b k k1, hq]) (by omega))
    have F5 := Lib.hid (nearV_fit a b r b1' hr (by omega))
    have F6 := Lib.hid (nearV_fit (a * k) (b * k) r pb1 (by rw [near_times a b k k1, hr]) (by omega))
    obtain ⟨m, hm⟩ : ∃ m, a * k = m := ⟨_, rfl⟩
    obtain ⟨l, hl⟩ : ∃ l, b * k = l := ⟨_, rfl⟩
    rw [hm] at pa F4 F6
    rw [hl] at pb F4 F6
    have e1 : IntKind.i64.wrap m = m := IntWalk.i64_in _ (by omega)
    have e2 : IntKind.i64.wrap l = l := IntWalk.i64_in _ (by omega)
    have A1 : -9223372036854775808 ≤ a ∧ a ≤ 9223372036854775807 := by omega
    have B1 : -9223372036854775808 ≤ b ∧ b ≤ 9223372036854775807 := by omega
    have M1 : -9223372036854775808 ≤ m ∧ m ≤ 9223372036854775807 := by omega
    have L1 : -9223372036854775808 ≤ l ∧ l ≤ 9223372036854775807 := by omega
    clear hq hr h
    go_enter Tryd.func7, Tryd.ntmps7
    go_wp2_with fail
    refine (shown_any _ (by repeat (first | exact hT | refine Tab.step ?_ (by assumption)))).mono ?_
    rintro e w1 ⟨rfl, b1⟩
    go_wp2_with fail
    refine (scale_any a b b _ A1 B1 B1).mono ?_
    rintro e w2 ⟨rfl, b2⟩
    rw [F1.out]
    go_wp2_with fail
    refine (near_any a b b _ A1 B1 B1).mono ?_
    rintro e w3 ⟨rfl, b3⟩
    rw [F2.out]
    go_wp2_with fail
    refine (floor_any a b _ A1 B1).mono ?_
    rintro e w4 ⟨rfl, b4⟩
    rw [F3.out]
    go_wp2_with fail
    refine (floor_any m l _ M1 L1).mono ?_
    rintro e w5 ⟨rfl, b5⟩
    rw [F4.out]
    go_wp2_with fail
    refine (round_any a b _ A1 B1).mono ?_
    rintro e w6 ⟨rfl, b6⟩
    rw [F5.out]
    go_wp2_with fail
    refine (round_any m l _ M1 L1).mono ?_
    rintro e w7 ⟨rfl, b7⟩
    rw [F6.out]
    go_wp2
    go_ret
    have z1 := b1.size; have z2 := b2.size; have z3 := b3.size; have z4 := b4.size; have z5 := b5.size; have z6 := b6.size
    refine ⟨rfl, ((((((b1.trans (b2.mono z1)).trans (b3.mono (by omega))).trans (b4.mono (by omega))).trans (b5.mono (by omega))).trans (b6.mono (by omega))).trans (b7.mono (by omega)))⟩
end Go.Proofs.YtflnchbamlcgaaaDoor
