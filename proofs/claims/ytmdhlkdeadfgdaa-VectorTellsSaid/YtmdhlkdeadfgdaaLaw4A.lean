/- The walk of VectorTells. -/
import Derived.Test.YtmdhlkdeadfgdaaLaw4S
namespace Go.Proofs.Ytmdhlkdeadfgdaa
open Go.RowKit
set_option linter.unusedVariables false
set_option linter.unusedSimpArgs false
set_option maxHeartbeats 4000000
set_option maxRecDepth 100000

theorem tells_a (x y u v k n : Int) (w : World) (na : nearB x y = false) :
    Calls Try.prog 3 #[P2 x y, P2 u v, .int .i64 k, .int .i64 n] w fun e w' => e = .returned (.bool true) ∧ Below w.heap.size w w' := by
  have QV0 := fun w => vnear_any x y w
  simp only [na] at QV0
  have QV := Lib.hid QV0
  clear QV0
  have QR0 := fun w => r4near_any x y w
  simp only [na] at QR0
  have QR := Lib.hid QR0
  clear QR0
  go_enter Try.func3, Try.ntmps3
  go_wp2_with fail
  refine any_gen (fun w' => w'.cell? ⟨w.heap.size, 0, none⟩ = some (.int .i64 (x)) ∧ w'.cell? ⟨w.heap.size, 1, none⟩ = some (.int .i64 (y)) ∧ w'.cell? ⟨w.heap.size + 1, 0, none⟩ = some (.int .i64 (u)) ∧ w'.cell? ⟨w.heap.size + 1, 1, none⟩ = some (.int .i64 (v)) ∧ w.heap.size + 1 + 1 ≤ w'.heap.size ∧ Below w.heap.size w w') ⟨by simp [go_sem], by simp [go_sem], by simp [go_sem], by simp [go_sem], ?siz, ?bel⟩ ?_
  case siz => simp
  case bel => repeat (first | exact Below.refl _ _ | refine below_dN ?_ _ | refine Below.setCell ?_ (by simp; try omega) _ | refine Below.alloc ?_ (by simp; try omega) _)
  rintro w0 ⟨c1, c2, c3, c4, hs, hb0⟩
  first | (go_region_held3 (fun w' => w'.cell? ⟨w.heap.size, 0, none⟩ = some (.int .i64 (x)) ∧ w'.cell? ⟨w.heap.size, 1, none⟩ = some (.int .i64 (y)) ∧ w'.cell? ⟨w.heap.size + 1, 0, none⟩ = some (.int .i64 (u)) ∧ w'.cell? ⟨w.heap.size + 1, 1, none⟩ = some (.int .i64 (v)) ∧ Below w0.heap.size w0 w') ((first | assumption | exact ⟨by simp [*], by simp [*], by simp [*], by simp [*], (Below.refl _ _).drew⟩ | exact keep4 ‹_› hb (by dsimp only; omega) (by dsimp only; omega) (by dsimp only; omega) (by dsimp only; omega) | exact keepA4 ‹_› _ (by dsimp only; omega) (by dsimp only; omega) (by dsimp only; omega) (by dsimp only; omega) | exact keepS4 (keepS4 ‹_› _ _ (by dsimp only; omega) (by dsimp only; omega) (by dsimp only; omega) (by dsimp only; omega) (by dsimp only; omega)) _ _ (by dsimp only; omega) (by dsimp only; omega) (by dsimp only; omega) (by dsimp only; omega) (by dsimp only; omega))) ((first | (go_at_call 8; refine (QV.out _).mono ?_; rintro e w' ⟨rfl, hb⟩) | (go_at_call 9; refine (QR.out _).mono ?_; rintro e w' ⟨rfl, hb⟩) | (go_at_call 10; refine (shown_any _).mono ?_; rintro e w' ⟨rfl, hb⟩)))) | fail
  refine any_gen (fun z => z.cell? ⟨w.heap.size, 0, none⟩ = some (.int .i64 (x)) ∧ z.cell? ⟨w.heap.size, 1, none⟩ = some (.int .i64 (y)) ∧ z.cell? ⟨w.heap.size + 1, 0, none⟩ = some (.int .i64 (u)) ∧ z.cell? ⟨w.heap.size + 1, 1, none⟩ = some (.int .i64 (v)) ∧ w0.heap.size ≤ z.heap.size ∧ Below w.heap.size w z) (next4 ‹_ ∧ _› (by omega) hb0) ?_
  clear c1 c2 c3 c4 hb0
  rintro w1 ⟨c1, c2, c3, c4, hsz, hb0⟩
  replace hs := Nat.le_trans hs hsz
  clear hsz
  go_wp2_with fail
  refine (QR.out _).mono ?_
  rintro e w2 ⟨rfl, h2⟩
  obtain ⟨d1, d2, d3, d4, hsz, hb1⟩ := next4 (keep4 ⟨c1, c2, c3, c4, Below.refl _ _⟩ h2 (by dsimp only; omega) (by dsimp only; omega) (by dsimp only; omega) (by dsimp only; omega)) (by omega) hb0
  clear c1 c2 c3 c4 hb0 h2
  have c1 := d1
  clear d1
  have c2 := d2
  clear d2
  have c3 := d3
  clear d3
  have c4 := d4
  clear d4
  have hb0 := hb1
  clear hb1
  replace hs := Nat.le_trans hs hsz
  clear hsz
  go_wp2
  go_ret
  exact ⟨rfl, hb0⟩

theorem tells_b (x y u v k n : Int) (w : World) (na : nearB x y = true) (nb : nearB u v = false) :
    Calls Try.prog 3 #[P2 x y, P2 u v, .int .i64 k, .int .i64 n] w fun e w' => e = .returned (.bool true) ∧ Below w.heap.size w w' := by
  have QV0 := fun w => vnear_any x y w
  simp only [na] at QV0
  have QV := Lib.hid QV0
  clear QV0
  have QR0 := fun w => r4near_any x y w
  simp only [na] at QR0
  have QR := Lib.hid QR0
  clear QR0
  have QB0 := fun w => r4near_any u v w
  simp only [nb] at QB0
  have QB := Lib.hid QB0
  clear QB0
  go_enter Try.func3, Try.ntmps3
  go_wp2_with fail
  refine any_gen (fun w' => w'.cell? ⟨w.heap.size, 0, none⟩ = some (.int .i64 (x)) ∧ w'.cell? ⟨w.heap.size, 1, none⟩ = some (.int .i64 (y)) ∧ w'.cell? ⟨w.heap.size + 1, 0, none⟩ = some (.int .i64 (u)) ∧ w'.cell? ⟨w.heap.size + 1, 1, none⟩ = some (.int .i64 (v)) ∧ w.heap.size + 1 + 1 ≤ w'.heap.size ∧ Below w.heap.size w w') ⟨by simp [go_sem], by simp [go_sem], by simp [go_sem], by simp [go_sem], ?siz, ?bel⟩ ?_
  case siz => simp
  case bel => repeat (first | exact Below.refl _ _ | refine below_dN ?_ _ | refine Below.setCell ?_ (by simp; try omega) _ | refine Below.alloc ?_ (by simp; try omega) _)
  rintro w0 ⟨c1, c2, c3, c4, hs, hb0⟩
  first | (go_region_held3 (fun w' => w'.cell? ⟨w.heap.size, 0, none⟩ = some (.int .i64 (x)) ∧ w'.cell? ⟨w.heap.size, 1, none⟩ = some (.int .i64 (y)) ∧ w'.cell? ⟨w.heap.size + 1, 0, none⟩ = some (.int .i64 (u)) ∧ w'.cell? ⟨w.heap.size + 1, 1, none⟩ = some (.int .i64 (v)) ∧ Below w0.heap.size w0 w') ((first | assumption | exact ⟨by simp [*], by simp [*], by simp [*], by simp [*], (Below.refl _ _).drew⟩ | exact keep4 ‹_› hb (by dsimp only; omega) (by dsimp only; omega) (by dsimp only; omega) (by dsimp only; omega) | exact keepA4 ‹_› _ (by dsimp only; omega) (by dsimp only; omega) (by dsimp only; omega) (by dsimp only; omega) | exact keepS4 (keepS4 ‹_› _ _ (by dsimp only; omega) (by dsimp only; omega) (by dsimp only; omega) (by dsimp only; omega) (by dsimp only; omega)) _ _ (by dsimp only; omega) (by dsimp only; omega) (by dsimp only; omega) (by dsimp only; omega) (by dsimp only; omega))) ((first | (go_at_call 8; refine (QV.out _).mono ?_; rintro e w' ⟨rfl, hb⟩) | (go_at_call 9; refine (QR.out _).mono ?_; rintro e w' ⟨rfl, hb⟩) | (go_at_call 10; refine (shown_any _).mono ?_; rintro e w' ⟨rfl, hb⟩)))) | fail
  refine any_gen (fun z => z.cell? ⟨w.heap.size, 0, none⟩ = some (.int .i64 (x)) ∧ z.cell? ⟨w.heap.size, 1, none⟩ = some (.int .i64 (y)) ∧ z.cell? ⟨w.heap.size + 1, 0, none⟩ = some (.int .i64 (u)) ∧ z.cell? ⟨w.heap.size + 1, 1, none⟩ = some (.int .i64 (v)) ∧ w0.heap.size ≤ z.heap.size ∧ Below w.heap.size w z) (next4 ‹_ ∧ _› (by omega) hb0) ?_
  clear c1 c2 c3 c4 hb0
  rintro w1 ⟨c1, c2, c3, c4, hsz, hb0⟩
  replace hs := Nat.le_trans hs hsz
  clear hsz
  go_wp2_with fail
  refine (QR.out _).mono ?_
  rintro e w2 ⟨rfl, h2⟩
  obtain ⟨d1, d2, d3, d4, hsz, hb1⟩ := next4 (keep4 ⟨c1, c2, c3, c4, Below.refl _ _⟩ h2 (by dsimp only; omega) (by dsimp only; omega) (by dsimp only; omega) (by dsimp only; omega)) (by omega) hb0
  clear c1 c2 c3 c4 hb0 h2
  have c1 := d1
  clear d1
  have c2 := d2
  clear d2
  have c3 := d3
  clear d3
  have c4 := d4
  clear d4
  have hb0 := hb1
  clear hb1
  replace hs := Nat.le_trans hs hsz
  clear hsz
  go_wp2_with fail
  refine (QB.out _).mono ?_
  rintro e w3 ⟨rfl, h3⟩
  obtain ⟨d1, d2, d3, d4, hsz, hb1⟩ := next4 (keep4 ⟨c1, c2, c3, c4, Below.refl _ _⟩ h3 (by dsimp only; omega) (by dsimp only; omega) (by dsimp only; omega) (by dsimp only; omega)) (by omega) hb0
  clear c1 c2 c3 c4 hb0 h3
  have c1 := d1
  clear d1
  have c2 := d2
  clear d2
  have c3 := d3
  clear d3
  have c4 := d4
  clear d4
  have hb0 := hb1
  clear hb1
  replace hs := Nat.le_trans hs hsz
  clear hsz
  go_wp2
  go_ret
  exact ⟨rfl, hb0⟩

theorem tells_k (x y u v k n : Int) (w : World) (na : nearB x y = true) (nb : nearB u v = true) (nk : farB k = true) :
    Calls Try.prog 3 #[P2 x y, P2 u v, .int .i64 k, .int .i64 n] w fun e w' => e = .returned (.bool true) ∧ Below w.heap.size w w' := by
  have QV0 := fun w => vnear_any x y w
  simp only [na] at QV0
  have QV := Lib.hid QV0
  clear QV0
  have QR0 := fun w => r4near_any x y w
  simp only [na] at QR0
  have QR := Lib.hid QR0
  clear QR0
  have QB0 := fun w => r4near_any u v w
  simp only [nb] at QB0
  have QB := Lib.hid QB0
  clear QB0
  have FK0 := fun w => far_any k w
  simp only [nk] at FK0
  have FK := Lib.hid FK0
  clear FK0
  go_enter Try.func3, Try.ntmps3
  go_wp2_with fail
  refine any_gen (fun w' => w'.cell? ⟨w.heap.size, 0, none⟩ = some (.int .i64 (x)) ∧ w'.cell? ⟨w.heap.size, 1, none⟩ = some (.int .i64 (y)) ∧ w'.cell? ⟨w.heap.size + 1, 0, none⟩ = some (.int .i64 (u)) ∧ w'.cell? ⟨w.heap.size + 1, 1, none⟩ = some (.int .i64 (v)) ∧ w.heap.size + 1 + 1 ≤ w'.heap.size ∧ Below w.heap.size w w') ⟨by simp [go_sem], by simp [go_sem], by simp [go_sem], by simp [go_sem], ?siz, ?bel⟩ ?_
  case siz => simp
  case bel => repeat (first | exact Below.refl _ _ | refine below_dN ?_ _ | refine Below.setCell ?_ (by simp; try omega) _ | refine Below.alloc ?_ (by simp; try omega) _)
  rintro w0 ⟨c1, c2, c3, c4, hs, hb0⟩
  first | (go_region_held3 (fun w' => w'.cell? ⟨w.heap.size, 0, none⟩ = some (.int .i64 (x)) ∧ w'.cell? ⟨w.heap.size, 1, none⟩ = some (.int .i64 (y)) ∧ w'.cell? ⟨w.heap.size + 1, 0, none⟩ = some (.int .i64 (u)) ∧ w'.cell? ⟨w.heap.size + 1, 1, none⟩ = some (.int .i64 (v)) ∧ Below w0.heap.size w0 w') ((first | assumption | exact ⟨by simp [*], by simp [*], by simp [*], by simp [*], (Below.refl _ _).drew⟩ | exact keep4 ‹_› hb (by dsimp only; omega) (by dsimp only; omega) (by dsimp only; omega) (by dsimp only; omega) | exact keepA4 ‹_› _ (by dsimp only; omega) (by dsimp only; omega) (by dsimp only; omega) (by dsimp only; omega) | exact keepS4 (keepS4 ‹_› _ _ (by dsimp only; omega) (by dsimp only; omega) (by dsimp only; omega) (by dsimp only; omega) (by dsimp only; omega)) _ _ (by dsimp only; omega) (by dsimp only; omega) (by dsimp only; omega) (by dsimp only; omega) (by dsimp only; omega))) ((first | (go_at_call 8; refine (QV.out _).mono ?_; rintro e w' ⟨rfl, hb⟩) | (go_at_call 9; refine (QR.out _).mono ?_; rintro e w' ⟨rfl, hb⟩) | (go_at_call 10; refine (shown_any _).mono ?_; rintro e w' ⟨rfl, hb⟩)))) | fail
  refine any_gen (fun z => z.cell? ⟨w.heap.size, 0, none⟩ = some (.int .i64 (x)) ∧ z.cell? ⟨w.heap.size, 1, none⟩ = some (.int .i64 (y)) ∧ z.cell? ⟨w.heap.size + 1, 0, none⟩ = some (.int .i64 (u)) ∧ z.cell? ⟨w.heap.size + 1, 1, none⟩ = some (.int .i64 (v)) ∧ w0.heap.size ≤ z.heap.size ∧ Below w.heap.size w z) (next4 ‹_ ∧ _› (by omega) hb0) ?_
  clear c1 c2 c3 c4 hb0
  rintro w1 ⟨c1, c2, c3, c4, hsz, hb0⟩
  replace hs := Nat.le_trans hs hsz
  clear hsz
  go_wp2_with fail
  refine (QR.out _).mono ?_
  rintro e w2 ⟨rfl, h2⟩
  obtain ⟨d1, d2, d3, d4, hsz, hb1⟩ := next4 (keep4 ⟨c1, c2, c3, c4, Below.refl _ _⟩ h2 (by dsimp only; omega) (by dsimp only; omega) (by dsimp only; omega) (by dsimp only; omega)) (by omega) hb0
  clear c1 c2 c3 c4 hb0 h2
  have c1 := d1
  clear d1
  have c2 := d2
  clear d2
  have c3 := d3
  clear d3
  have c4 := d4
  clear d4
  have hb0 := hb1
  clear hb1
  replace hs := Nat.le_trans hs hsz
  clear hsz
  go_wp2_with fail
  refine (QB.out _).mono ?_
  rintro e w3 ⟨rfl, h3⟩
  obtain ⟨d1, d2, d3, d4, hsz, hb1⟩ := next4 (keep4 ⟨c1, c2, c3, c4, Below.refl _ _⟩ h3 (by dsimp only; omega) (by dsimp only; omega) (by dsimp only; omega) (by dsimp only; omega)) (by omega) hb0
  clear c1 c2 c3 c4 hb0 h3
  have c1 := d1
  clear d1
  have c2 := d2
  clear d2
  have c3 := d3
  clear d3
  have c4 := d4
  clear d4
  have hb0 := hb1
  clear hb1
  replace hs := Nat.le_trans hs hsz
  clear hsz
  go_wp2_with fail
  refine (FK.out _).mono ?_
  rintro e w4 ⟨rfl, h4⟩
  obtain ⟨d1, d2, d3, d4, hsz, hb1⟩ := next4 (keep4 ⟨c1, c2, c3, c4, Below.refl _ _⟩ h4 (by dsimp only; omega) (by dsimp only; omega) (by dsimp only; omega) (by dsimp only; omega)) (by omega) hb0
  clear c1 c2 c3 c4 hb0 h4
  have c1 := d1
  clear d1
  have c2 := d2
  clear d2
  have c3 := d3
  clear d3
  have c4 := d4
  clear d4
  have hb0 := hb1
  clear hb1
  replace hs := Nat.le_trans hs hsz
  clear hsz
  go_wp2
  go_ret
  exact ⟨rfl, hb0⟩

theorem tells_n (x y u v k n : Int) (w : World) (na : nearB x y = true) (nb : nearB u v = true) (nk : farB k = false) (nf : farB n = true) :
    Calls Try.prog 3 #[P2 x y, P2 u v, .int .i64 k, .int .i64 n] w fun e w' => e = .returned (.bool true) ∧ Below w.heap.size w w' := by
  have QV0 := fun w => vnear_any x y w
  simp only [na] at QV0
  have QV := Lib.hid QV0
  clear QV0
  have QR0 := fun w => r4near_any x y w
  simp only [na] at QR0
  have QR := Lib.hid QR0
  clear QR0
  have QB0 := fun w => r4near_any u v w
  simp only [nb] at QB0
  have QB := Lib.hid QB0
  clear QB0
  have FK0 := fun w => far_any k w
  simp only [nk] at FK0
  have FK := Lib.hid FK0
  clear FK0
  have FN0 := fun w => far_any n w
  simp only [nf] at FN0
  have FN := Lib.hid FN0
  clear FN0
  go_enter Try.func3, Try.ntmps3
  go_wp2_with fail
  refine any_gen (fun w' => w'.cell? ⟨w.heap.size, 0, none⟩ = some (.int .i64 (x)) ∧ w'.cell? ⟨w.heap.size, 1, none⟩ = some (.int .i64 (y)) ∧ w'.cell? ⟨w.heap.size + 1, 0, none⟩ = some (.int .i64 (u)) ∧ w'.cell? ⟨w.heap.size + 1, 1, none⟩ = some (.int .i64 (v)) ∧ w.heap.size + 1 + 1 ≤ w'.heap.size ∧ Below w.heap.size w w') ⟨by simp [go_sem], by simp [go_sem], by simp [go_sem], by simp [go_sem], ?siz, ?bel⟩ ?_
  case siz => simp
  case bel => repeat (first | exact Below.refl _ _ | refine below_dN ?_ _ | refine Below.setCell ?_ (by simp; try omega) _ | refine Below.alloc ?_ (by simp; try omega) _)
  rintro w0 ⟨c1, c2, c3, c4, hs, hb0⟩
  first | (go_region_held3 (fun w' => w'.cell? ⟨w.heap.size, 0, none⟩ = some (.int .i64 (x)) ∧ w'.cell? ⟨w.heap.size, 1, none⟩ = some (.int .i64 (y)) ∧ w'.cell? ⟨w.heap.size + 1, 0, none⟩ = some (.int .i64 (u)) ∧ w'.cell? ⟨w.heap.size + 1, 1, none⟩ = some (.int .i64 (v)) ∧ Below w0.heap.size w0 w') ((first | assumption | exact ⟨by simp [*], by simp [*], by simp [*], by simp [*], (Below.refl _ _).drew⟩ | exact keep4 ‹_› hb (by dsimp only; omega) (by dsimp only; omega) (by dsimp only; omega) (by dsimp only; omega) | exact keepA4 ‹_› _ (by dsimp only; omega) (by dsimp only; omega) (by dsimp only; omega) (by dsimp only; omega) | exact keepS4 (keepS4 ‹_› _ _ (by dsimp only; omega) (by dsimp only; omega) (by dsimp only; omega) (by dsimp only; omega) (by dsimp only; omega)) _ _ (by dsimp only; omega) (by dsimp only; omega) (by dsimp only; omega) (by dsimp only; omega) (by dsimp only; omega))) ((first | (go_at_call 8; refine (QV.out _).mono ?_; rintro e w' ⟨rfl, hb⟩) | (go_at_call 9; refine (QR.out _).mono ?_; rintro e w' ⟨rfl, hb⟩) | (go_at_call 10; refine (shown_any _).mono ?_; rintro e w' ⟨rfl, hb⟩)))) | fail
  refine any_gen (fun z => z.cell? ⟨w.heap.size, 0, none⟩ = some (.int .i64 (x)) ∧ z.cell? ⟨w.heap.size, 1, none⟩ = some (.int .i64 (y)) ∧ z.cell? ⟨w.heap.size + 1, 0, none⟩ = some (.int .i64 (u)) ∧ z.cell? ⟨w.heap.size + 1, 1, none⟩ = some (.int .i64 (v)) ∧ w0.heap.size ≤ z.heap.size ∧ Below w.heap.size w z) (next4 ‹_ ∧ _› (by omega) hb0) ?_
  clear c1 c2 c3 c4 hb0
  rintro w1 ⟨c1, c2, c3, c4, hsz, hb0⟩
  replace hs := Nat.le_trans hs hsz
  clear hsz
  go_wp2_with fail
  refine (QR.out _).mono ?_
  rintro e w2 ⟨rfl, h2⟩
  obtain ⟨d1, d2, d3, d4, hsz, hb1⟩ := next4 (keep4 ⟨c1, c2, c3, c4, Below.refl _ _⟩ h2 (by dsimp only; omega) (by dsimp only; omega) (by dsimp only; omega) (by dsimp only; omega)) (by omega) hb0
  clear c1 c2 c3 c4 hb0 h2
  have c1 := d1
  clear d1
  have c2 := d2
  clear d2
  have c3 := d3
  clear d3
  have c4 := d4
  clear d4
  have hb0 := hb1
  clear hb1
  replace hs := Nat.le_trans hs hsz
  clear hsz
  go_wp2_with fail
  refine (QB.out _).mono ?_
  rintro e w3 ⟨rfl, h3⟩
  obtain ⟨d1, d2, d3, d4, hsz, hb1⟩ := next4 (keep4 ⟨c1, c2, c3, c4, Below.refl _ _⟩ h3 (by dsimp only; omega) (by dsimp only; omega) (by dsimp only; omega) (by dsimp only; omega)) (by omega) hb0
  clear c1 c2 c3 c4 hb0 h3
  have c1 := d1
  clear d1
  have c2 := d2
  clear d2
  have c3 := d3
  clear d3
  have c4 := d4
  clear d4
  have hb0 := hb1
  clear hb1
  replace hs := Nat.le_trans hs hsz
  clear hsz
  go_wp2_with fail
  refine (FK.out _).mono ?_
  rintro e w4 ⟨rfl, h4⟩
  obtain ⟨d1, d2, d3, d4, hsz, hb1⟩ := next4 (keep4 ⟨c1, c2, c3, c4, Below.refl _ _⟩ h4 (by dsimp only; omega) (by dsimp only; omega) (by dsimp only; omega) (by dsimp only; omega)) (by omega) hb0
  clear c1 c2 c3 c4 hb0 h4
  have c1 := d1
  clear d1
  have c2 := d2
  clear d2
  have c3 := d3
  clear d3
  have c4 := d4
  clear d4
  have hb0 := hb1
  clear hb1
  replace hs := Nat.le_trans hs hsz
  clear hsz
  go_wp2_with fail
  refine (FN.out _).mono ?_
  rintro e w5 ⟨rfl, h5⟩
  obtain ⟨d1, d2, d3, d4, hsz, hb1⟩ := next4 (keep4 ⟨c1, c2, c3, c4, Below.refl _ _⟩ h5 (by dsimp only; omega) (by dsimp only; omega) (by dsimp only; omega) (by dsimp only; omega)) (by omega) hb0
  clear c1 c2 c3 c4 hb0 h5
  have c1 := d1
  clear d1
  have c2 := d2
  clear d2
  have c3 := d3
  clear d3
  have c4 := d4
  clear d4
  have hb0 := hb1
  clear hb1
  replace hs := Nat.le_trans hs hsz
  clear hsz
  go_wp2
  go_ret
  exact ⟨rfl, hb0⟩

theorem tells_main (x y u v k n : Int) (w : World) (na : nearB x y = true) (nb : nearB u v = true) (nk : farB k = false) (nf : farB n = false) :
    Calls Try.prog 3 #[P2 x y, P2 u v, .int .i64 k, .int .i64 n] w fun e w' => e = .returned (.bool true) ∧ Below w.heap.size w w' := by
  obtain ⟨hx, hy⟩ := nearB_iff.1 na
  obtain ⟨hu, hv⟩ := nearB_iff.1 nb
  have hk : -2147483648 ≤ k ∧ k ≤ 2147483648 := by unfold farB at nk; simp at nk; omega
  have hn : -2147483648 ≤ n ∧ n ≤ 2147483648 := by unfold farB at nf; simp at nf; omega
  have gx : -2147483648 ≤ x ∧ x ≤ 2147483648 := by omega
  have gy : -2147483648 ≤ y ∧ y ≤ 2147483648 := by omega
  have gu : -2147483648 ≤ u ∧ u ≤ 2147483648 := by omega
  have gv : -2147483648 ≤ v ∧ v ≤ 2147483648 := by omega
  have QV0 := fun w => vnear_any x y w
  simp only [na] at QV0
  have QV := Lib.hid QV0
  clear QV0
  have QR0 := fun w => r4near_any x y w
  simp only [na] at QR0
  have QR := Lib.hid QR0
  clear QR0
  have QB0 := fun w => r4near_any u v w
  simp only [nb] at QB0
  have QB := Lib.hid QB0
  clear QB0
  have FK0 := fun w => far_any k w
  simp only [nk] at FK0
  have FK := Lib.hid FK0
  clear FK0
  have FN0 := fun w => far_any n w
  simp only [nf] at FN0
  have FN := Lib.hid FN0
  clear FN0
  obtain ⟨AX, hAX⟩ : ∃ AX, x + u = AX := ⟨_, rfl⟩
  obtain ⟨AY, hAY⟩ : ∃ AY, y + v = AY := ⟨_, rfl⟩
  obtain ⟨SX, hSX⟩ : ∃ SX, x - u = SX := ⟨_, rfl⟩
  obtain ⟨SY, hSY⟩ : ∃ SY, y - v = SY := ⟨_, rfl⟩
  obtain ⟨NX, hNX⟩ : ∃ NX, -x = NX := ⟨_, rfl⟩
  obtain ⟨NY, hNY⟩ : ∃ NY, -y = NY := ⟨_, rfl⟩
  obtain ⟨DT, hDT⟩ : ∃ DT, x * u + y * v = DT := ⟨_, rfl⟩
  obtain ⟨CR, hCR⟩ : ∃ CR, x * v - y * u = CR := ⟨_, rfl⟩
  obtain ⟨LN, hLN⟩ : ∃ LN, lenN x y = LN := ⟨_, rfl⟩
  obtain ⟨MX, hMX⟩ : ∃ MX, normX x y k = MX := ⟨_, rfl⟩
  obtain ⟨MY, hMY⟩ : ∃ MY, normY x y k = MY := ⟨_, rfl⟩
  obtain ⟨GX, hGX⟩ : ∃ GX, alongQ x u k n = GX := ⟨_, rfl⟩
  obtain ⟨GY, hGY⟩ : ∃ GY, alongQ y v k n = GY := ⟨_, rfl⟩
  have VADD0 := fun w => vadd_any x y u v w gx gy gu gv
  simp only [hAX, hAY] at VADD0
  have VADD := Lib.hid VADD0
  clear VADD0
  have VSUB0 := fun w => vsub_any x y u v w gx gy gu gv
  simp only [hSX, hSY] at VSUB0
  have VSUB := Lib.hid VSUB0
  clear VSUB0
  have VNEG0 := fun w => vneg_any x y w gx gy
  simp only [hNX, hNY] at VNEG0
  have VNEG := Lib.hid VNEG0
  clear VNEG0
  have VLEFT0 := fun w => vleft_any x y w gx gy
  simp only [hNY] at VLEFT0
  have VLEFT := Lib.hid VLEFT0
  clear VLEFT0
  have VDOT0 := fun w => vdot_any x y u v w hx hy hu hv
  simp only [hDT] at VDOT0
  have VDOT := Lib.hid VDOT0
  clear VDOT0
  have VCROSS0 := fun w => vcross_any x y u v w hx hy hu hv
  simp only [hCR] at VCROSS0
  have VCROSS := Lib.hid VCROSS0
  clear VCROSS0
  have VLEN0 := fun w => vlen_any x y w hx hy
  simp only [hLN] at VLEN0
  have VLEN := Lib.hid VLEN0
  clear VLEN0
  have VNORM0 := fun w => vnorm_any x y k w hx hy hk
  simp only [hMX, hMY] at VNORM0
  have VNORM := Lib.hid VNORM0
  clear VNORM0
  have VALONG0 := fun w => valong_any x y u v k n w hx hy hu hv hk hn
  simp only [hGX, hGY] at VALONG0
  have VALONG := Lib.hid VALONG0
  clear VALONG0
  have R4ADD0 := fun w => r4add_any x y u v w gx gy gu gv
  simp only [hAX, hAY] at R4ADD0
  have R4ADD := Lib.hid R4ADD0
  clear R4ADD0
  have R4SUB0 := fun w => r4sub_any x y u v w gx gy gu gv
  simp only [hSX, hSY] at R4SUB0
  have R4SUB := Lib.hid R4SUB0
  clear R4SUB0
  have R4NEG0 := fun w => r4neg_any x y w gx gy
  simp only [hNX, hNY] at R4NEG0
  have R4NEG := Lib.hid R4NEG0
  clear R4NEG0
  have R4LEFT0 := fun w => r4left_any x y w gx gy
  simp only [hNY] at R4LEFT0
  have R4LEFT := Lib.hid R4LEFT0
  clear R4LEFT0
  have R4DOT0 := fun w => r4dot_any x y u v w hx hy hu hv
  simp only [hDT] at R4DOT0
  have R4DOT := Lib.hid R4DOT0
  clear R4DOT0
  have R4CROSS0 := fun w => r4cross_any x y u v w hx hy hu hv
  simp only [hCR] at R4CROSS0
  have R4CROSS := Lib.hid R4CROSS0
  clear R4CROSS0
  have R4LEN0 := fun w => r4len_any x y w hx hy
  simp only [hLN] at R4LEN0
  have R4LEN := Lib.hid R4LEN0
  clear R4LEN0
  have R4NORM0 := fun w => r4norm_any x y k w hx hy hk
  simp only [hMX, hMY] at R4NORM0
  have R4NORM := Lib.hid R4NORM0
  clear R4NORM0
  have R4ALONG0 := fun w => r4along_any x y u v k n w hx hy hu hv hk hn
  simp only [hGX, hGY] at R4ALONG0
  have R4ALONG := Lib.hid R4ALONG0
  clear R4ALONG0
  clear hAX hAY hSX hSY hNX hNY hDT hCR hLN hMX hMY hGX hGY hx hy hu hv hk hn gx gy gu gv
  go_enter Try.func3, Try.ntmps3
  go_wp2_with fail
  refine any_gen (fun w' => w'.cell? ⟨w.heap.size, 0, none⟩ = some (.int .i64 (x)) ∧ w'.cell? ⟨w.heap.size, 1, none⟩ = some (.int .i64 (y)) ∧ w'.cell? ⟨w.heap.size + 1, 0, none⟩ = some (.int .i64 (u)) ∧ w'.cell? ⟨w.heap.size + 1, 1, none⟩ = some (.int .i64 (v)) ∧ w.heap.size + 1 + 1 ≤ w'.heap.size ∧ Below w.heap.size w w') ⟨by simp [go_sem], by simp [go_sem], by simp [go_sem], by simp [go_sem], ?siz, ?bel⟩ ?_
  case siz => simp
  case bel => repeat (first | exact Below.refl _ _ | refine below_dN ?_ _ | refine Below.setCell ?_ (by simp; try omega) _ | refine Below.alloc ?_ (by simp; try omega) _)
  rintro w0 ⟨c1, c2, c3, c4, hs, hb0⟩
  first | (go_region_held3 (fun w' => w'.cell? ⟨w.heap.size, 0, none⟩ = some (.int .i64 (x)) ∧ w'.cell? ⟨w.heap.size, 1, none⟩ = some (.int .i64 (y)) ∧ w'.cell? ⟨w.heap.size + 1, 0, none⟩ = some (.int .i64 (u)) ∧ w'.cell? ⟨w.heap.size + 1, 1, none⟩ = some (.int .i64 (v)) ∧ Below w0.heap.size w0 w') ((first | assumption | exact ⟨by simp [*], by simp [*], by simp [*], by simp [*], (Below.refl _ _).drew⟩ | exact keep4 ‹_› hb (by dsimp only; omega) (by dsimp only; omega) (by dsimp only; omega) (by dsimp only; omega) | exact keepA4 ‹_› _ (by dsimp only; omega) (by dsimp only; omega) (by dsimp only; omega) (by dsimp only; omega) | exact keepS4 (keepS4 ‹_› _ _ (by dsimp only; omega) (by dsimp only; omega) (by dsimp only; omega) (by dsimp only; omega) (by dsimp only; omega)) _ _ (by dsimp only; omega) (by dsimp only; omega) (by dsimp only; omega) (by dsimp only; omega) (by dsimp only; omega))) ((first | (go_at_call 8; refine (QV.out _).mono ?_; rintro e w' ⟨rfl, hb⟩) | (go_at_call 9; refine (QR.out _).mono ?_; rintro e w' ⟨rfl, hb⟩) | (go_at_call 10; refine (shown_any _).mono ?_; rintro e w' ⟨rfl, hb⟩)))) | fail
  refine any_gen (fun z => z.cell? ⟨w.heap.size, 0, none⟩ = some (.int .i64 (x)) ∧ z.cell? ⟨w.heap.size, 1, none⟩ = some (.int .i64 (y)) ∧ z.cell? ⟨w.heap.size + 1, 0, none⟩ = some (.int .i64 (u)) ∧ z.cell? ⟨w.heap.size + 1, 1, none⟩ = some (.int .i64 (v)) ∧ w0.heap.size ≤ z.heap.size ∧ Below w.heap.size w z) (next4 ‹_ ∧ _› (by omega) hb0) ?_
  clear c1 c2 c3 c4 hb0
  rintro w1 ⟨c1, c2, c3, c4, hsz, hb0⟩
  replace hs := Nat.le_trans hs hsz
  clear hsz
  go_wp2_with fail
  refine (QR.out _).mono ?_
  rintro e w2 ⟨rfl, h2⟩
  obtain ⟨d1, d2, d3, d4, hsz, hb1⟩ := next4 (keep4 ⟨c1, c2, c3, c4, Below.refl _ _⟩ h2 (by dsimp only; omega) (by dsimp only; omega) (by dsimp only; omega) (by dsimp only; omega)) (by omega) hb0
  clear c1 c2 c3 c4 hb0 h2
  have c1 := d1
  clear d1
  have c2 := d2
  clear d2
  have c3 := d3
  clear d3
  have c4 := d4
  clear d4
  have hb0 := hb1
  clear hb1
  replace hs := Nat.le_trans hs hsz
  clear hsz
  go_wp2_with fail
  refine (QB.out _).mono ?_
  rintro e w3 ⟨rfl, h3⟩
  obtain ⟨d1, d2, d3, d4, hsz, hb1⟩ := next4 (keep4 ⟨c1, c2, c3, c4, Below.refl _ _⟩ h3 (by dsimp only; omega) (by dsimp only; omega) (by dsimp only; omega) (by dsimp only; omega)) (by omega) hb0
  clear c1 c2 c3 c4 hb0 h3
  have c1 := d1
  clear d1
  have c2 := d2
  clear d2
  have c3 := d3
  clear d3
  have c4 := d4
  clear d4
  have hb0 := hb1
  clear hb1
  replace hs := Nat.le_trans hs hsz
  clear hsz
  go_wp2_with fail
  refine (FK.out _).mono ?_
  rintro e w4 ⟨rfl, h4⟩
  obtain ⟨d1, d2, d3, d4, hsz, hb1⟩ := next4 (keep4 ⟨c1, c2, c3, c4, Below.refl _ _⟩ h4 (by dsimp only; omega) (by dsimp only; omega) (by dsimp only; omega) (by dsimp only; omega)) (by omega) hb0
  clear c1 c2 c3 c4 hb0 h4
  have c1 := d1
  clear d1
  have c2 := d2
  clear d2
  have c3 := d3
  clear d3
  have c4 := d4
  clear d4
  have hb0 := hb1
  clear hb1
  replace hs := Nat.le_trans hs hsz
  clear hsz
  go_wp2_with fail
  refine (FN.out _).mono ?_
  rintro e w5 ⟨rfl, h5⟩
  obtain ⟨d1, d2, d3, d4, hsz, hb1⟩ := next4 (keep4 ⟨c1, c2, c3, c4, Below.refl _ _⟩ h5 (by dsimp only; omega) (by dsimp only; omega) (by dsimp only; omega) (by dsimp only; omega)) (by omega) hb0
  clear c1 c2 c3 c4 hb0 h5
  have c1 := d1
  clear d1
  have c2 := d2
  clear d2
  have c3 := d3
  clear d3
  have c4 := d4
  clear d4
  have hb0 := hb1
  clear hb1
  replace hs := Nat.le_trans hs hsz
  clear hsz
  go_wp2_with fail
  dsimp only [List.append]
  first | (go_region_held3 (fun w' => w'.cell? ⟨w.heap.size, 0, none⟩ = some (.int .i64 (x)) ∧ w'.cell? ⟨w.heap.size, 1, none⟩ = some (.int .i64 (y)) ∧ w'.cell? ⟨w.heap.size + 1, 0, none⟩ = some (.int .i64 (u)) ∧ w'.cell? ⟨w.heap.size + 1, 1, none⟩ = some (.int .i64 (v)) ∧ Below w5.heap.size w5 w') ((first | assumption | exact ⟨by simp [*], by simp [*], by simp [*], by simp [*], (Below.refl _ _).drew⟩ | exact keep4 ‹_› hb (by dsimp only; omega) (by dsimp only; omega) (by dsimp only; omega) (by dsimp only; omega) | exact keepA4 ‹_› _ (by dsimp only; omega) (by dsimp only; omega) (by dsimp only; omega) (by dsimp only; omega) | exact keepS4 (keepS4 ‹_› _ _ (by dsimp only; omega) (by dsimp only; omega) (by dsimp only; omega) (by dsimp only; omega) (by dsimp only; omega)) _ _ (by dsimp only; omega) (by dsimp only; omega) (by dsimp only; omega) (by dsimp only; omega) (by dsimp only; omega))) ((first | (go_at_call 12; refine (VADD.out _).mono ?_; rintro e w' ⟨rfl, hb⟩) | (go_at_call 14; refine (VSUB.out _).mono ?_; rintro e w' ⟨rfl, hb⟩) | (go_at_call 16; refine (VNEG.out _).mono ?_; rintro e w' ⟨rfl, hb⟩) | (go_at_call 18; refine (VLEFT.out _).mono ?_; rintro e w' ⟨rfl, hb⟩) | (go_at_call 20; refine (VDOT.out _).mono ?_; rintro e w' ⟨rfl, hb⟩) | (go_at_call 22; refine (VCROSS.out _).mono ?_; rintro e w' ⟨rfl, hb⟩) | (go_at_call 24; refine (VLEN.out _).mono ?_; rintro e w' ⟨rfl, hb⟩) | (go_at_call 26; refine (VNORM.out _).mono ?_; rintro e w' ⟨rfl, hb⟩) | (go_at_call 28; refine (VALONG.out _).mono ?_; rintro e w' ⟨rfl, hb⟩) | (go_at_call 13; refine (R4ADD.out _).mono ?_; rintro e w' ⟨rfl, hb⟩) | (go_at_call 15; refine (R4SUB.out _).mono ?_; rintro e w' ⟨rfl, hb⟩) | (go_at_call 17; refine (R4NEG.out _).mono ?_; rintro e w' ⟨rfl, hb⟩) | (go_at_call 19; refine (R4LEFT.out _).mono ?_; rintro e w' ⟨rfl, hb⟩) | (go_at_call 21; refine (R4DOT.out _).mono ?_; rintro e w' ⟨rfl, hb⟩) | (go_at_call 23; refine (R4CROSS.out _).mono ?_; rintro e w' ⟨rfl, hb⟩) | (go_at_call 25; refine (R4LEN.out _).mono ?_; rintro e w' ⟨rfl, hb⟩) | (go_at_call 27; refine (R4NORM.out _).mono ?_; rintro e w' ⟨rfl, hb⟩) | (go_at_call 29; refine (R4ALONG.out _).mono ?_; rintro e w' ⟨rfl, hb⟩) | (go_at_call 10; refine (shown_any _).mono ?_; rintro e w' ⟨rfl, hb⟩)))) | fail
  all_goals
    have hF := belK4 ‹_ ∧ _ ∧ _ ∧ _ ∧ Below w5.heap.size w5 _›
    go_wp2
    go_ret
    exact ⟨rfl, hb0.trans (hF.mono (by omega))⟩

theorem walk_VectorTells (x y u v k n : Int) (w : World) :
    Calls Try.prog 3 #[P2 x y, P2 u v, .int .i64 k, .int .i64 n] w fun e w' => e = .returned (.bool true) ∧ Below w.heap.size w w' := by
  rcases na : nearB x y with _ | _
  · exact tells_a x y u v k n w na
  · rcases nb : nearB u v with _ | _
    · exact tells_b x y u v k n w na nb
    · rcases nk : farB k with _ | _
      · rcases nf : farB n with _ | _
        · exact tells_main x y u v k n w na nb nk nf
        · exact tells_n x y u v k n w na nb nk nf
      · exact tells_k x y u v k n w na nb nk
end Go.Proofs.Ytmdhlkdeadfgdaa
