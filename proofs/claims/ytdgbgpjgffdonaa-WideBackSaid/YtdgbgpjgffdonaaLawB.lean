/- The walks of the laws of layer 1. -/
import Derived.Test.YtdgbgpjgffdonaaLawA
import Derived.Test.YtdgbgpjgffdonaaRefB
import Derived.Test.YtdgbgpjgffdonaaMore
namespace Go.Proofs.Ytdgbgpjgffdonaa
open Go.RowKit
set_option linter.unusedVariables false
set_option maxHeartbeats 1000000

theorem in_back (m n r : Int) (hm : -9223372036854775808 ≤ m ∧ m ≤ 9223372036854775807) (hn : 1 ≤ n ∧ n ≤ 9223372036854775807) (hr : 0 ≤ r ∧ r < n) : In (m * n + r) := by
  have h1 : m * n ≤ 9223372036854775808 * 9223372036854775808 := Int.le_trans (Int.mul_le_mul_of_nonneg_right (by omega) (by omega)) (Int.mul_le_mul_of_nonneg_left (by omega) (by omega) : 9223372036854775808 * n ≤ 9223372036854775808 * 9223372036854775808)
  have h2 : -9223372036854775808 * n ≤ m * n := Int.mul_le_mul_of_nonneg_right hm.1 (by omega)
  unfold In; omega
theorem back_div (m n r : Int) (hr : 0 ≤ r ∧ r < n) : (m * n + r) / n = m ∧ (m * n + r) % n = r := by
  rw [Int.add_comm, Int.add_mul_ediv_right _ _ (by omega), Int.add_mul_emod_self_right, Int.ediv_eq_zero_of_lt hr.1 hr.2, Int.emod_eq_of_lt hr.1 hr.2]
  omega
theorem narrow_short (m : Int) (hm : -9223372036854775808 ≤ m ∧ m ≤ 9223372036854775807) : narrowV m = .tuple #[.int .i64 m, .bool true] := by
  unfold narrowV; rw [if_pos hm]

theorem walk_WideBack (m n a : Int) (w : World) (hm : -9223372036854775808 ≤ m ∧ m ≤ 9223372036854775807) (hn : -9223372036854775808 ≤ n ∧ n ≤ 9223372036854775807) (ha : 0 ≤ a ∧ a ≤ 18446744073709551615) :
    Calls Try.prog 5 #[.int .i64 m, .int .i64 n, .int .u64 a] w fun e w' => e = .returned (.bool true) ∧ Below w.heap.size w w' := by
  by_cases h0 : n ≤ 0
  · go_enter Try.func5, Try.ntmps5
    go_wp2_with fail
    refine (shown_any _).mono ?_
    rintro e w1 ⟨rfl, h1⟩
    go_wp2
    go_ret
    exact ⟨rfl, h1⟩
  · have b0 : decide (n ≤ 0) = false := by simp; omega
    have u1 : IntKind.u64.wrap n = n := by rw [IntKind.wrap_u64]; omega
    have r0 := Int.emod_nonneg a (b := n) (by omega)
    have r1 := Int.emod_lt_of_pos a (b := n) (by omega)
    have z0 : (n == 0) = false := by simp; omega
    have z1 : ¬ n = 0 := by omega
    have hr : 0 ≤ a % n ∧ a % n ≤ 9223372036854775807 := by omega
    have Hd := Lib.hid (back_div m n (a % n) ⟨r0, r1⟩)
    have Hn := Lib.hid (narrow_short m hm)
    go_enter Try.func5, Try.ntmps5
    go_wp2_with fail
    refine (shown_any _).mono ?_
    rintro e w1 ⟨rfl, h1⟩
    go_wp2_with fail
    refine (mul_any m n _ hm hn).mono ?_
    rintro e w2 ⟨rfl, h2⟩
    go_wp2_with fail
    refine (of_any (a % n) _ (by omega)).mono ?_
    rintro e w3 ⟨rfl, h3⟩
    go_wp2_with fail
    refine (add_any (m * n) (a % n) _).mono ?_
    rintro e w4 ⟨rfl, h4⟩
    go_wp2_with fail
    refine (div_any (m * n + a % n) n _ (in_back m n _ hm (by omega) ⟨r0, r1⟩) (by omega)).mono ?_
    rintro e w5 ⟨rfl, h5⟩
    rw [Hd.out.1, Hd.out.2]
    go_wp2_with fail
    refine (narrow_any m _ (in_of m hm)).mono ?_
    rintro e w6 ⟨rfl, h6⟩
    rw [Hn.out]
    go_wp2
    go_ret
    refine ⟨rfl, ?_⟩
    have s1 := h1.size; have s2 := h2.size; have s3 := h3.size; have s4 := h4.size; have s5 := h5.size
    exact (((((h1.trans (h2.mono s1)).trans (h3.mono (by omega))).trans (h4.mono (by omega))).trans (h5.mono (by omega))).alloc (by omega) _).trans (h6.mono (by simp; omega))

theorem bounds_order (a n : Int) (ia : In a) (hn : -9223372036854775808 ≤ n ∧ n ≤ 9223372036854775807) (h1 : hi a ≤ 4611686018427387904) (h2 : -4611686018427387904 ≤ hi a) :
    In (a + n) ∧ cmpN (a + n) a = cmpN n 0 ∧ cmpN a (a + n) = -cmpN n 0 := by
  have s := split_in a ia
  have l := lo_bd a
  refine ⟨by unfold In at *; omega, ?_, ?_⟩
  · unfold cmpN; split <;> split <;> (try split) <;> (try split) <;> omega
  · unfold cmpN; split <;> split <;> (try split) <;> (try split) <;> omega

theorem walk_WideOrder (a n : Int) (w : World) (ia : In a) (hn : -9223372036854775808 ≤ n ∧ n ≤ 9223372036854775807) :
    Calls Try.prog 6 #[W a, .int .i64 n] w fun e w' => e = .returned (.bool true) ∧ Below w.heap.size w w' := by
  go_enter Try.func6, Try.ntmps6
  go_upto_region 1 with fail
  go_cut [5] (fun s5 wx => ∃ g : Nat, s5 = .pointer (some ⟨g, 0, none⟩) ∧ (wx.cell? ⟨g, 0, none⟩ = some (.int .i64 (hi (a + n))) ∧ wx.cell? ⟨g, 1, none⟩ = some (.int .u64 (lo (a + n)))) ∧ (wx.cell? ⟨w.heap.size, 0, none⟩ = some (.int .i64 (hi a)) ∧ wx.cell? ⟨w.heap.size, 1, none⟩ = some (.int .u64 (lo a))) ∧ (g < wx.heap.size ∧ w.heap.size < wx.heap.size) ∧ Below w.heap.size w wx)
  case first =>
    refine any_gen (fun w' => w'.cell? ⟨w.heap.size, 0, none⟩ = some (.int .i64 (hi a)) ∧ w'.cell? ⟨w.heap.size, 1, none⟩ = some (.int .u64 (lo a)) ∧ w.heap.size + 1 ≤ w'.heap.size ∧ Below w.heap.size w w') ⟨by simp [go_sem], by simp [go_sem], ?siz, ?bel⟩ ?_
    case siz => simp
    case bel => repeat (first | exact Below.refl _ _ | refine below_dN ?_ _ | refine Below.setCell ?_ (by simp; try omega) _ | refine Below.alloc ?_ (by simp; try omega) _)
    rintro w0 ⟨c1, c2, hs, hb0⟩
    go_region_held3 (fun w' => w'.cell? ⟨w.heap.size, 0, none⟩ = some (.int .i64 (hi a)) ∧ w'.cell? ⟨w.heap.size, 1, none⟩ = some (.int .u64 (lo a)) ∧ Below w0.heap.size w0 w') ((first | exact ⟨by simp [*], by simp [*], (Below.refl _ _).drew⟩ | exact keep2 ‹_› hb (by dsimp only; omega) (by dsimp only; omega) | exact keepA2 ‹_› _ (by dsimp only; omega) (by dsimp only; omega) | exact keepS2 (keepS2 ‹_› _ _ (by dsimp only; omega) (by dsimp only; omega) (by dsimp only; omega)) _ _ (by dsimp only; omega) (by dsimp only; omega) (by dsimp only; omega))) ((first | (go_at_call 19; refine (of_any n _ hn).mono ?_; rintro e w' ⟨rfl, hb⟩; obtain ⟨hcc, hff⟩ := bcell hb; have hzz := hb.size; (try simp at hzz); (try (have hx0 := hcc w0.heap.size 0 (by first | omega | (simp; done) | (simp; omega)); have hx1 := hcc w0.heap.size 1 (by first | omega | (simp; done) | (simp; omega)); have hx2 := hff w0.heap.size 0 (by first | omega | (simp; done) | (simp; omega)); have hx3 := hff w0.heap.size 1 (by first | omega | (simp; done) | (simp; omega)))); have hStay := keep2 ‹_› hb (by dsimp only; omega) (by dsimp only; omega)) | (go_at_call 9; refine (add_any a n _).mono ?_; rintro e w' ⟨rfl, hb⟩; obtain ⟨hcc, hff⟩ := bcell hb; have hzz := hb.size; (try simp at hzz); (try (have hx0 := hcc w0.heap.size 0 (by first | omega | (simp; done) | (simp; omega)); have hx1 := hcc w0.heap.size 1 (by first | omega | (simp; done) | (simp; omega)); have hx2 := hff w0.heap.size 0 (by first | omega | (simp; done) | (simp; omega)); have hx3 := hff w0.heap.size 1 (by first | omega | (simp; done) | (simp; omega)))); have hStay := keep2 ‹_› hb (by dsimp only; omega) (by dsimp only; omega))))
    all_goals
      go_wp2_with fail
      go_meet
      have hF := belK2 ‹_ ∧ _ ∧ Below w0.heap.size w0 _›
      have hZ := hF.size
      exact ⟨_, rfl, ⟨by simp [go_sem, *], by simp [go_sem, *]⟩, ⟨And.left ‹_ ∧ _ ∧ Below w0.heap.size w0 _›, And.left (And.right ‹_ ∧ _ ∧ Below w0.heap.size w0 _›)⟩, ⟨by first | omega | (simp at *; done) | (simp at *; omega), by first | omega | (simp at *; done) | (simp at *; omega)⟩, hb0.trans (hF.mono (by omega))⟩
  case rest =>
    obtain ⟨g, rfl, ⟨c1, c2⟩, ⟨c3, c4⟩, ⟨hg, hs⟩, hb0⟩ := hcut
    obtain ⟨w0, rfl⟩ : ∃ w0 : World, w0 = wc := ⟨_, rfl⟩
    go_wp2_with fail
    go_region_held3 (fun w' => w'.cell? ⟨g, 0, none⟩ = some (.int .i64 (hi (a + n))) ∧ w'.cell? ⟨g, 1, none⟩ = some (.int .u64 (lo (a + n))) ∧ w'.cell? ⟨w.heap.size, 0, none⟩ = some (.int .i64 (hi a)) ∧ w'.cell? ⟨w.heap.size, 1, none⟩ = some (.int .u64 (lo a)) ∧ Below w0.heap.size w0 w') ((first | exact ⟨by simp [*], by simp [*], by simp [*], by simp [*], (Below.refl _ _).drew⟩ | exact keep4 ‹_› hb (by dsimp only; omega) (by dsimp only; omega) (by dsimp only; omega) (by dsimp only; omega) | exact keepA4 ‹_› _ (by dsimp only; omega) (by dsimp only; omega) (by dsimp only; omega) (by dsimp only; omega) | exact keepS4 (keepS4 ‹_› _ _ (by dsimp only; omega) (by dsimp only; omega) (by dsimp only; omega) (by dsimp only; omega) (by dsimp only; omega)) _ _ (by dsimp only; omega) (by dsimp only; omega) (by dsimp only; omega) (by dsimp only; omega) (by dsimp only; omega))) ((first | (go_at_call 19; refine (of_any n _ hn).mono ?_; rintro e w' ⟨rfl, hb⟩) | (go_at_call 11; refine (sub_any _ _ _).mono ?_; rintro e w' ⟨rfl, hb⟩) | (go_at_call 9; refine (add_any _ _ _).mono ?_; rintro e w' ⟨rfl, hb⟩)))
    refine any_gen (fun z => z.cell? ⟨g, 0, none⟩ = some (.int .i64 (hi (a + n))) ∧ z.cell? ⟨g, 1, none⟩ = some (.int .u64 (lo (a + n))) ∧ z.cell? ⟨w.heap.size, 0, none⟩ = some (.int .i64 (hi a)) ∧ z.cell? ⟨w.heap.size, 1, none⟩ = some (.int .u64 (lo a)) ∧ w0.heap.size ≤ z.heap.size ∧ Below w.heap.size w z) (next4 ‹_ ∧ _› (by omega) hb0) ?_
    clear c1 c2 c3 c4 hb0
    rintro w1 ⟨c1, c2, c3, c4, hsz, hb0⟩
    replace hs := Nat.le_trans hs hsz
    replace hg := Nat.le_trans hg hsz
    clear hsz
    have hE := bounds_order a n ia hn
    by_cases t1 : 4611686018427387904 < hi a
    · go_wp2_with fail
      refine (shown_any _).mono ?_
      rintro e w2 ⟨rfl, h2⟩
      go_wp2
      go_ret
      exact ⟨rfl, hb0.trans (h2.mono (by omega))⟩
    · by_cases t2 : hi a < -4611686018427387904
      · go_wp2_with fail
        refine (shown_any _).mono ?_
        rintro e w2 ⟨rfl, h2⟩
        go_wp2
        go_ret
        exact ⟨rfl, hb0.trans (h2.mono (by omega))⟩
      · have q1 : decide (4611686018427387904 < hi a) = false := by simp; omega
        have q2 : decide (hi a < -4611686018427387904) = false := by simp; omega
        obtain ⟨iE, hc1, hc2⟩ := hE (by omega) (by omega)
        have Hc1 := Lib.hid hc1
        have Hc2 := Lib.hid hc2
        have bn : -1 ≤ cmpN n 0 ∧ cmpN n 0 ≤ 1 := by unfold cmpN; split <;> (try split) <;> omega
        have ng : IntKind.i64.wrap (-cmpN n 0) = -cmpN n 0 := IntWalk.i64_in _ (by omega)
        clear hc1 hc2 hE
        go_wp2_with fail
        refine (shown_any _).mono ?_
        rintro e w2 ⟨rfl, h2⟩
        obtain ⟨d1, d2, d3, d4, hsz, hb1⟩ := next4 (keep4 ⟨c1, c2, c3, c4, Below.refl _ _⟩ h2 (by dsimp only; omega) (by dsimp only; omega) (by dsimp only; omega) (by dsimp only; omega)) (by omega) hb0
        clear c1 c2 c3 c4 hb0 h2
        have c1 := d1
        clear d1
        have c2 := d2
        clear d2
        have c3 := d3
        clear d3
        have c4 := d4
        clear d4
        have hb0 := hb1
        clear hb1
        replace hs := Nat.le_trans hs hsz
        replace hg := Nat.le_trans hg hsz
        clear hsz
        go_wp2_with fail
        go_region_held3 (fun w' => w'.cell? ⟨g, 0, none⟩ = some (.int .i64 (hi (a + n))) ∧ w'.cell? ⟨g, 1, none⟩ = some (.int .u64 (lo (a + n))) ∧ w'.cell? ⟨w.heap.size, 0, none⟩ = some (.int .i64 (hi a)) ∧ w'.cell? ⟨w.heap.size, 1, none⟩ = some (.int .u64 (lo a)) ∧ Below w2.heap.size w2 w') ((first | exact ⟨by simp [*], by simp [*], by simp [*], by simp [*], (Below.refl _ _).drew⟩ | exact keep4 ‹_› hb (by dsimp only; omega) (by dsimp only; omega) (by dsimp only; omega) (by dsimp only; omega) | exact keepA4 ‹_› _ (by dsimp only; omega) (by dsimp only; omega) (by dsimp only; omega) (by dsimp only; omega) | exact keepS4 (keepS4 ‹_› _ _ (by dsimp only; omega) (by dsimp only; omega) (by dsimp only; omega) (by dsimp only; omega) (by dsimp only; omega)) _ _ (by dsimp only; omega) (by dsimp only; omega) (by dsimp only; omega) (by dsimp only; omega) (by dsimp only; omega))) ((first | (go_at_call 13; refine (cmp_any _ _ _ ?_ ?_).mono ?_; (first | exact iE | exact ia); (first | exact ia | exact iE); rintro e w' ⟨rfl, hb⟩; (first | rw [Hc1.out] | rw [Hc2.out])) | (go_at_call 19; refine (of_any n _ hn).mono ?_; rintro e w' ⟨rfl, hb⟩) | (go_at_call 15; refine (sign_any n _ (in_of n hn)).mono ?_; rintro e w' ⟨rfl, hb⟩)))
        have hF := belK4 ‹_ ∧ _ ∧ _ ∧ _ ∧ Below w2.heap.size w2 _›
        go_wp2
        go_ret
        exact ⟨rfl, hb0.trans (hF.mono (by omega))⟩
end Go.Proofs.Ytdgbgpjgffdonaa
