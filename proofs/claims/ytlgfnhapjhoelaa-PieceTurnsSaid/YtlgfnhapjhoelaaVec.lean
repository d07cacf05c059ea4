/- What the program's own vectors answer: products, lengths, and what lies on the way. -/
import Derived.Test.YtlgfnhapjhoelaaVecA
namespace Go.Proofs.Ytlgfnhapjhoelaa
open Go.RowKit
set_option linter.unusedVariables false
set_option linter.unusedSimpArgs false
set_option maxHeartbeats 2000000

theorem pcross_any (x y u v : Int) (w : World) (hx : -1073741824 ≤ x ∧ x ≤ 1073741824) (hy : -1073741824 ≤ y ∧ y ≤ 1073741824) (hu : -1073741824 ≤ u ∧ u ≤ 1073741824) (hv : -1073741824 ≤ v ∧ v ≤ 1073741824) :
    Calls Try.prog 43 #[V2 x y u v] w fun e w' => e = .returned (.int .i64 (x * v - y * u)) ∧ Below w.heap.size w w' := by
  have VAL := Lib.hid (show (-y) * u + x * v = x * v - y * u by rw [Int.neg_mul]; omega)
  have LF := Lib.hid (fun w => pleft_any x y w (by omega) (by omega))
  have DO := Lib.hid (fun w => vdot_any (-y) x u v w (by omega) hx hu hv)
  clear hx hy hu hv
  go_enter Try.func43, Try.ntmps43
  go_wp2_with fail
  refine any_gen (fun w' => w'.cell? ⟨w.heap.size, 0, none⟩ = some (.int .i64 (x)) ∧ w'.cell? ⟨w.heap.size, 1, none⟩ = some (.int .i64 (y)) ∧ w'.cell? ⟨w.heap.size, 2, none⟩ = some (.int .i64 (u)) ∧ w'.cell? ⟨w.heap.size, 3, none⟩ = some (.int .i64 (v)) ∧ w.heap.size + 1 ≤ w'.heap.size ∧ Below w.heap.size w w') ⟨by simp [go_sem], by simp [go_sem], by simp [go_sem], by simp [go_sem], ?siz, ?bel⟩ ?_
  case siz => simp
  case bel => repeat (first | exact Below.refl _ _ | refine below_dN ?_ _ | refine Below.setCell ?_ (by simp; try omega) _ | refine Below.alloc ?_ (by simp; try omega) _)
  rintro w0 ⟨c1, c2, c3, c4, hs, hb0⟩
  first | (go_region_held3 (fun w' => w'.cell? ⟨w.heap.size, 0, none⟩ = some (.int .i64 (x)) ∧ w'.cell? ⟨w.heap.size, 1, none⟩ = some (.int .i64 (y)) ∧ w'.cell? ⟨w.heap.size, 2, none⟩ = some (.int .i64 (u)) ∧ w'.cell? ⟨w.heap.size, 3, none⟩ = some (.int .i64 (v)) ∧ Below w0.heap.size w0 w') ((first | assumption | exact ⟨by simp [*], by simp [*], by simp [*], by simp [*], (Below.refl _ _).drew⟩ | exact keep4 ‹_› hb (by (try dsimp only); omega) (by (try dsimp only); omega) (by (try dsimp only); omega) (by (try dsimp only); omega) | exact keepA4 ‹_› _ (by (try dsimp only); omega) (by (try dsimp only); omega) (by (try dsimp only); omega) (by (try dsimp only); omega) | exact keepS4 (keepS4 ‹_› _ _ (by (try dsimp only); omega) (by (try dsimp only); omega) (by (try dsimp only); omega) (by (try dsimp only); omega) (by (try dsimp only); omega)) _ _ (by (try dsimp only); omega) (by (try dsimp only); omega) (by (try dsimp only); omega) (by (try dsimp only); omega) (by (try dsimp only); omega))) ((first | (go_at_call 51; refine (LF.out _).mono ?_; rintro e w' ⟨rfl, hb⟩) | (go_at_call 50; refine (DO.out _).mono ?_; rintro e w' ⟨rfl, hb⟩)))) | fail
  have hF := belK4 ‹_ ∧ _ ∧ _ ∧ _ ∧ Below w0.heap.size w0 _›
  go_wp2
  go_ret
  exact ⟨by rw [VAL.out]; rfl, hb0.trans (hF.mono (by omega))⟩

theorem vcross_any (x y u v : Int) (w : World) (hx : -1073741824 ≤ x ∧ x ≤ 1073741824) (hy : -1073741824 ≤ y ∧ y ≤ 1073741824) (hu : -1073741824 ≤ u ∧ u ≤ 1073741824) (hv : -1073741824 ≤ v ∧ v ≤ 1073741824) :
    Calls Try.prog 30 #[P2 x y, P2 u v] w fun e w' => e = .returned (.int .i64 (x * v - y * u)) ∧ Below w.heap.size w w' := by
  have C := Lib.hid (fun w => pcross_any x y u v w hx hy hu hv)
  go_enter Try.func30, Try.ntmps30
  go_wp2_with fail
  refine (C.out _).mono ?_
  rintro e w1 ⟨rfl, h1⟩
  have z1 := h1.size
  simp at z1
  have hB := Below.trans (show Below w.heap.size w _ from (by repeat (first | exact Below.refl _ _ | refine below_dN ?_ _ | refine Below.setCell ?_ (by first | (simp; done) | (simp; omega)) _ | refine Below.alloc ?_ (by first | (simp; done) | (simp; omega)) _))) (h1.mono (by first | (simp; done) | (simp; omega)))
  clear h1
  go_wp2
  go_ret
  exact ⟨rfl, hB⟩

theorem vsub_any (x y u v : Int) (w : World) (hx : -2147483648 ≤ x ∧ x ≤ 2147483648) (hy : -2147483648 ≤ y ∧ y ≤ 2147483648) (hu : -2147483648 ≤ u ∧ u ≤ 2147483648) (hv : -2147483648 ≤ v ∧ v ≤ 2147483648) :
    Calls Try.prog 52 #[P2 x y, P2 u v] w fun e w' => e = .returned (P2 (x - u) (y - v)) ∧ Below w.heap.size w w' := by
  have Hx := Lib.hid (show x + -u = x - u by omega)
  have Hy := Lib.hid (show y + -v = y - v by omega)
  have NEG := Lib.hid (fun w => vneg_any u v w hu hv)
  have ADD := Lib.hid (fun w => vadd_any x y (-u) (-v) w hx hy (by omega) (by omega))
  clear hx hy hu hv
  go_enter Try.func52, Try.ntmps52
  go_wp2_with fail
  refine wp_gen (fun w' => w'.cell? ⟨w.heap.size, 0, none⟩ = some (.int .i64 (x)) ∧ w'.cell? ⟨w.heap.size, 1, none⟩ = some (.int .i64 (y)) ∧ w'.cell? ⟨w.heap.size + 1, 0, none⟩ = some (.int .i64 (u)) ∧ w'.cell? ⟨w.heap.size + 1, 1, none⟩ = some (.int .i64 (v)) ∧ OwnN (w.heap.size + 1 + 1) 2 w' ∧ w.heap.size + 3 ≤ w'.heap.size ∧ Below w.heap.size w w') ⟨by simp [go_sem], by simp [go_sem], by simp [go_sem], by simp [go_sem], ?own, ?siz, ?bel⟩ ?_
  case own => exact OwnN.of_two ⟨_, by simp [go_sem]; rfl⟩ (by simp [go_sem]) ⟨_, by simp [go_sem]; rfl⟩ (by simp [go_sem])
  case siz => simp
  case bel => repeat (first | exact Below.refl _ _ | refine below_dN ?_ _ | refine Below.setCell ?_ (by simp; try omega) _ | refine Below.alloc ?_ (by simp; try omega) _)
  rintro w0 ⟨c1, c2, c3, c4, hown, hs, hb0⟩
  go_region_held3 (fun w' => w'.cell? ⟨w.heap.size, 0, none⟩ = some (.int .i64 (x)) ∧ w'.cell? ⟨w.heap.size, 1, none⟩ = some (.int .i64 (y)) ∧ w'.cell? ⟨w.heap.size + 1, 0, none⟩ = some (.int .i64 (u)) ∧ w'.cell? ⟨w.heap.size + 1, 1, none⟩ = some (.int .i64 (v)) ∧ OwnN (w.heap.size + 1 + 1) 2 w' ∧ w0.heap.size ≤ w'.heap.size ∧ Below w.heap.size w w') ((first | assumption | exact ⟨by simp [*], by simp [*], by simp [*], by simp [*], hown, Nat.le_refl _, hb0.drew⟩ | exact callR4 ‹_› hb (by omega) (by omega) (by (try dsimp only); omega) (by (try dsimp only); omega) (by (try dsimp only); omega) (by (try dsimp only); omega) | exact (setR4 (setR4 ‹_› _ _ (by omega) (by (try dsimp only); omega) (by (try dsimp only); omega) (by (try dsimp only); omega) (by (try dsimp only); omega)) _ _ (by omega) (by (try dsimp only); omega) (by (try dsimp only); omega) (by (try dsimp only); omega) (by (try dsimp only); omega)))) ((first | (go_at_call 57; refine (NEG.out _).mono ?_; rintro e w' ⟨rfl, hb⟩) | (go_at_call 33; refine (ADD.out _).mono ?_; rintro e w' ⟨rfl, hb⟩; have hS := callR4 ‹_› hb (by omega) (by omega) (by (try dsimp only); omega) (by (try dsimp only); omega) (by (try dsimp only); omega) (by (try dsimp only); omega); obtain ⟨⟨x0, hx0⟩, f0, ⟨x1, hx1⟩, f1⟩ := OwnN.two hS.2.2.2.2.1; clear hS)))
  go_wp2
  refine bodyPost_ret (by simp [results, Try.results52, go_sem, hx0, hx1] <;> rfl) rfl ⟨?_, ?_⟩
  · rw [Hx.out, Hy.out]
  · exact belR4 ‹_›

end Go.Proofs.Ytlgfnhapjhoelaa
