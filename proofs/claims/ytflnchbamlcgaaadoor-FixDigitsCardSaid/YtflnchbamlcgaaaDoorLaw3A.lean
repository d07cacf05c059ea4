/- The small case that all statements of layer 3 show. -/
import Derived.Test.YtflnchbamlcgaaaDoorFix
namespace Go.Proofs.YtflnchbamlcgaaaDoor
open Go.RowKit
set_option linter.unusedVariables false
set_option linter.unusedSimpArgs false
set_option maxHeartbeats 2000000

theorem show1 : parseV [45, 49, 46, 53, 48] = .tuple #[.int .i64 (-384), .int .i64 0] := by
  have h := parse_back (-384) 0 1 (by omega) (by omega) (by omega)
  have e : Lib.decDigits 1 = [49] := Lib.decDigits_one (by omega)
  have e2 : noughty 384 0 1 = [49, 46, 53, 48] := by
    unfold noughty prW
    rw [show 384 / 256 = 1 from rfl, e]; rfl
  rw [show (-384 : Int).natAbs = 384 from rfl, e2] at h
  exact h
theorem show2 : nearV (-3) 1 2 = .tuple #[.int .i64 (-1), .int .i64 0] := by
  have e : nearQ (-3 * 1) 2 = -1 := by unfold nearQ; decide
  unfold nearV; rw [if_neg (by omega), e]; exact full_yes (by omega)
theorem show3 : S (pr (-384)) = .string ⟨#[45, 49, 46, 53]⟩ := by
  have e : Lib.decDigits 1 = [49] := Lib.decDigits_one (by omega)
  have e2 : prW 384 = [49, 46, 53] := by
    unfold prW
    rw [show 384 / 256 = 1 from rfl, e]; rfl
  unfold pr S
  rw [show (-384 : Int).natAbs = 384 from rfl, e2]; rfl
theorem show4 : S (pr 1) = .string ⟨#[48, 46, 48, 48, 51, 57, 48, 54, 50, 53]⟩ := by
  have e : Lib.decDigits 0 = [48] := Lib.decDigits_one (by omega)
  have e2 : prW 1 = [48, 46, 48, 48, 51, 57, 48, 54, 50, 53] := by
    unfold prW
    rw [show 1 / 256 = 0 from rfl, e]; decide
  unfold pr S
  rw [show (1 : Int).natAbs = 1 from rfl, e2]; rfl

theorem shown_any (w : World) (hT : Tab w) :
    Calls Tryd.prog 17 #[] w fun e w' => e = .returned (.bool true) ∧ Below w.heap.size w w' := by
  have s1 := Lib.hid show1
  have s2 := Lib.hid show2
  have s3 := Lib.hid show3
  have s4 := Lib.hid show4
  go_enter Tryd.func17, Tryd.ntmps17
  go_wp2_with fail
  refine (parse_any ⟨#[45, 49, 46, 53, 48]⟩ _ (by decide)).mono ?_
  rintro e w1 ⟨rfl, h1⟩
  rw [s1.out]
  go_wp2_with fail
  refine (round_any (-3) 2 _ (by omega) (by omega)).mono ?_
  rintro e w2 ⟨rfl, h2⟩
  rw [s2.out]
  go_wp2_with fail
  refine (print_any (-384) _ (by omega) (by repeat (first | exact hT | refine Tab.step ?_ (by assumption)))).mono ?_
  rintro e w3 ⟨rfl, h3⟩
  rw [s3.out]
  go_wp2_with fail
  refine (print_any 1 _ (by omega) (by repeat (first | exact hT | refine Tab.step ?_ (by assumption)))).mono ?_
  rintro e w4 ⟨rfl, h4⟩
  rw [s4.out]
  go_wp2
  go_ret
  have z1 := h1.size; have z2 := h2.size; have z3 := h3.size
  exact ⟨rfl, ((h1.trans (h2.mono z1)).trans (h3.mono (by omega))).trans (h4.mono (by omega))⟩

theorem walk_FixDivides (a b c : Int) (w : World) (hT : Tab w) (ha : -9223372036854775808 ≤ a ∧ a ≤ 9223372036854775807) (hb : -9223372036854775808 ≤ b ∧ b ≤ 9223372036854775807) (hc : -9223372036854775808 ≤ c ∧ c ≤ 9223372036854775807) :
    Calls Tryd.prog 3 #[.int .i64 a, .int .i64 b, .int .i64 c] w fun e w' => e = .returned (.bool true) ∧ Below w.heap.size w w' := by
  have HA := Lib.hid ha
  have HB := Lib.hid hb
  have HC := Lib.hid hc
  obtain ⟨n1, x1, h1⟩ := scaleV_parts a 1 c
  obtain ⟨n2, x2, h2⟩ := nearV_parts a 1 c
  obtain ⟨n3, x3, h3⟩ := scaleV_parts a b c
  obtain ⟨n4, x4, h4⟩ := nearV_parts a b c
  have H1 := Lib.hid h1
  have H2 := Lib.hid h2
  have H3 := Lib.hid h3
  have H4 := Lib.hid h4
  clear ha hb hc h1 h2 h3 h4
  go_enter Tryd.func3, Tryd.ntmps3
  go_wp2_with fail
  refine (floor_any a c _ HA.out HC.out).mono ?_
  rintro e w1 ⟨rfl, b1⟩
  rw [H1.out]
  go_wp2_with fail
  refine (rfloor_any a c _ HA.out HC.out).mono ?_
  rintro e w2 ⟨rfl, b2⟩
  rw [H1.out]
  go_wp2_with fail
  refine (round_any a c _ HA.out HC.out).mono ?_
  rintro e w3 ⟨rfl, b3⟩
  rw [H2.out]
  go_wp2_with fail
  refine (rround_any a c _ HA.out HC.out).mono ?_
  rintro e w4 ⟨rfl, b4⟩
  rw [H2.out]
  go_wp2_with fail
  refine (scale_any a b c _ HA.out HB.out HC.out).mono ?_
  rintro e w5 ⟨rfl, b5⟩
  rw [H3.out]
  go_wp2_with fail
  refine (rscale_any a b c _ HA.out HB.out HC.out).mono ?_
  rintro e w6 ⟨rfl, b6⟩
  rw [H3.out]
  go_wp2_with fail
  refine (near_any a b c _ HA.out HB.out HC.out).mono ?_
  rintro e w7 ⟨rfl, b7⟩
  rw [H4.out]
  go_wp2_with fail
  refine (rnear_any a b c _ HA.out HB.out HC.out).mono ?_
  rintro e w8 ⟨rfl, b8⟩
  rw [H4.out]
  go_wp2_with fail
  refine (shown_any _ (by repeat (first | exact hT | refine Tab.step ?_ (by assumption)))).mono ?_
  rintro e w9 ⟨rfl, b9⟩
  go_wp2
  go_ret
  have z1 := b1.size; have z2 := b2.size; have z3 := b3.size; have z4 := b4.size; have z5 := b5.size; have z6 := b6.size; have z7 := b7.size; have z8 := b8.size
  exact ⟨rfl, ((((((((b1.trans (b2.mono z1)).trans (b3.mono (by omega))).trans (b4.mono (by omega))).trans (b5.mono (by omega))).trans (b6.mono (by omega))).trans (b7.mono (by omega))).trans (b8.mono (by omega))).trans (b9.mono (by omega)))⟩
end Go.Proofs.YtflnchbamlcgaaaDoor
