/- The walk of SignTells. -/
import Derived.Test.YtfgkndfcddnhlaaLaw5S
namespace Go.Proofs.Ytfgkndfcddnhlaa
open Go.RowKit
set_option linter.unusedVariables false
set_option linter.unusedSimpArgs false
set_option maxHeartbeats 4000000
set_option maxRecDepth 100000

theorem tells_far (x y u v c d p q l : Int) (w : World) (hl : -9223372036854775808 ≤ l ∧ l ≤ 9223372036854775807) (na : allNear [(x, y), (u, v), (c, d), (p, q)] = false) :
    Calls Try.prog 3 #[P2 x y, P2 u v, P2 c d, P2 p q, .int .i64 l] w fun e w' => e = .returned (.bool true) ∧ Below w.heap.size w w' := by
  have NA := Lib.hid na
  clear na
  go_enter Try.func3, Try.ntmps3
  go_wp2_with fail
  refine (near4_any _ x y u v c d p q false _ NA.out (by simp) (by first | simp | simp [go_sem]) (by first | simp | simp [go_sem]) (by first | simp | simp [go_sem]) (by first | simp | simp [go_sem]) (by first | simp | simp [go_sem]) (by first | simp | simp [go_sem]) (by first | simp | simp [go_sem]) (by first | simp | simp [go_sem])).mono ?_
  rintro e w1 ⟨rfl, h1⟩
  have z1 := h1.size
  simp at z1
  have hs : w.heap.size + 1 + 1 + 1 + 1 + 1 ≤ w1.heap.size := by omega
  have c1 : w1.cell? ⟨w.heap.size, 0, none⟩ = some (.int .i64 (x)) := (h1.cell (p := ⟨w.heap.size, 0, none⟩) (by simp; try omega)).trans (by first | simp | simp [go_sem])
  have c2 : w1.cell? ⟨w.heap.size, 1, none⟩ = some (.int .i64 (y)) := (h1.cell (p := ⟨w.heap.size, 1, none⟩) (by simp; try omega)).trans (by first | simp | simp [go_sem])
  have c3 : w1.cell? ⟨w.heap.size + 1, 0, none⟩ = some (.int .i64 (u)) := (h1.cell (p := ⟨w.heap.size + 1, 0, none⟩) (by simp; try omega)).trans (by first | simp | simp [go_sem])
  have c4 : w1.cell? ⟨w.heap.size + 1, 1, none⟩ = some (.int .i64 (v)) := (h1.cell (p := ⟨w.heap.size + 1, 1, none⟩) (by simp; try omega)).trans (by first | simp | simp [go_sem])
  have c5 : w1.cell? ⟨w.heap.size + 1 + 1, 0, none⟩ = some (.int .i64 (c)) := (h1.cell (p := ⟨w.heap.size + 1 + 1, 0, none⟩) (by simp; try omega)).trans (by first | simp | simp [go_sem])
  have c6 : w1.cell? ⟨w.heap.size + 1 + 1, 1, none⟩ = some (.int .i64 (d)) := (h1.cell (p := ⟨w.heap.size + 1 + 1, 1, none⟩) (by simp; try omega)).trans (by first | simp | simp [go_sem])
  have c7 : w1.cell? ⟨w.heap.size + 1 + 1 + 1, 0, none⟩ = some (.int .i64 (p)) := (h1.cell (p := ⟨w.heap.size + 1 + 1 + 1, 0, none⟩) (by simp; try omega)).trans (by first | simp | simp [go_sem])
  have c8 : w1.cell? ⟨w.heap.size + 1 + 1 + 1, 1, none⟩ = some (.int .i64 (q)) := (h1.cell (p := ⟨w.heap.size + 1 + 1 + 1, 1, none⟩) (by simp; try omega)).trans (by first | simp | simp [go_sem])
  have hb0 : Below w.heap.size w w1 := ((((((Below.refl _ _).alloc (by simp; try omega) _).alloc (by simp; try omega) _).alloc (by simp; try omega) _).alloc (by simp; try omega) _).alloc (by simp; try omega) _).trans (h1.mono (by simp; try omega))
  clear h1 z1
  go_wp2_with fail
  refine (shown_any _).mono ?_
  rintro e w2 ⟨rfl, h2⟩
  go_wp2
  go_ret
  exact ⟨rfl, hb0.trans (h2.mono (by omega))⟩

theorem tells_main (x y u v c d p q l : Int) (w : World) (hl : -9223372036854775808 ≤ l ∧ l ≤ 9223372036854775807) (na : allNear [(x, y), (u, v), (c, d), (p, q)] = true) :
    Calls Try.prog 3 #[P2 x y, P2 u v, P2 c d, P2 p q, .int .i64 l] w fun e w' => e = .returned (.bool true) ∧ Below w.heap.size w w' := by
  obtain ⟨hx, hy, hu, hv, hc, hd, hp, hq⟩ := near_4 na
  obtain ⟨s, hs⟩ : ∃ s, sideV x y u v p q = s := ⟨_, rfl⟩
  obtain ⟨b1, hb1⟩ : ∃ b1, betweenV x y u v p q = b1 := ⟨_, rfl⟩
  obtain ⟨b2, hb2⟩ : ∃ b2, withinV x y u v c d p q = b2 := ⟨_, rfl⟩
  obtain ⟨b3, hb3⟩ : ∃ b3, decide (dotN x y u v < 0) = b3 := ⟨_, rfl⟩
  obtain ⟨b4, hb4⟩ : ∃ b4, miterV x y u v l = b4 := ⟨_, rfl⟩
  obtain ⟨k, hk⟩ : ∃ k, quarterV x y = k := ⟨_, rfl⟩
  obtain ⟨b5, hb5⟩ : ∃ b5, beforeV x y u v = b5 := ⟨_, rfl⟩
  have SIDE0 := fun w => side_any x y u v p q w hx hy hu hv hp hq
  simp only [hs] at SIDE0
  have SIDE := Lib.hid SIDE0
  clear SIDE0
  have R5SIDE0 := fun w => r5side_any x y u v p q w hx hy hu hv hp hq
  simp only [hs] at R5SIDE0
  have R5SIDE := Lib.hid R5SIDE0
  clear R5SIDE0
  have BETWEEN0 := fun w => between_any x y u v p q w hx hy hu hv hp hq
  simp only [hb1] at BETWEEN0
  have BETWEEN := Lib.hid BETWEEN0
  clear BETWEEN0
  have R5BETWEEN0 := fun w => r5between_any x y u v p q w hx hy hu hv hp hq
  simp only [hb1] at R5BETWEEN0
  have R5BETWEEN := Lib.hid R5BETWEEN0
  clear R5BETWEEN0
  have WITHIN0 := fun w => within_any x y u v c d p q w hx hy hu hv hc hd hp hq
  simp only [hb2] at WITHIN0
  have WITHIN := Lib.hid WITHIN0
  clear WITHIN0
  have R5WITHIN0 := fun w => r5within_any x y u v c d p q w hx hy hu hv hc hd hp hq
  simp only [hb2] at R5WITHIN0
  have R5WITHIN := Lib.hid R5WITHIN0
  clear R5WITHIN0
  have SHARP0 := fun w => sharp_any x y u v w hx hy hu hv
  simp only [hb3] at SHARP0
  have SHARP := Lib.hid SHARP0
  clear SHARP0
  have R5SHARP0 := fun w => r5sharp_any x y u v w hx hy hu hv
  simp only [hb3] at R5SHARP0
  have R5SHARP := Lib.hid R5SHARP0
  clear R5SHARP0
  have MITER0 := fun w => miter_any x y u v l w hx hy hu hv hl
  simp only [hb4] at MITER0
  have MITER := Lib.hid MITER0
  clear MITER0
  have R5MITER0 := fun w => r5miter_any x y u v l w hx hy hu hv hl
  simp only [hb4] at R5MITER0
  have R5MITER := Lib.hid R5MITER0
  clear R5MITER0
  have QUARTER0 := fun w => quarter_any x y w
  simp only [hk] at QUARTER0
  have QUARTER := Lib.hid QUARTER0
  clear QUARTER0
  have R5QUARTER0 := fun w => r5quarter_any x y w
  simp only [hk] at R5QUARTER0
  have R5QUARTER := Lib.hid R5QUARTER0
  clear R5QUARTER0
  have BEFORE0 := fun w => before_any x y u v w hx hy hu hv
  simp only [hb5] at BEFORE0
  have BEFORE := Lib.hid BEFORE0
  clear BEFORE0
  have R5BEFORE0 := fun w => r5before_any x y u v w hx hy hu hv
  simp only [hb5] at R5BEFORE0
  have R5BEFORE := Lib.hid R5BEFORE0
  clear R5BEFORE0
  clear hs hb1 hb2 hb3 hb4 hk hb5
  have NA := Lib.hid na
  clear na hx hy hu hv hc hd hp hq
  go_enter Try.func3, Try.ntmps3
  go_wp2_with fail
  refine (near4_any _ x y u v c d p q true _ NA.out (by simp) (by first | simp | simp [go_sem]) (by first | simp | simp [go_sem]) (by first | simp | simp [go_sem]) (by first | simp | simp [go_sem]) (by first | simp | simp [go_sem]) (by first | simp | simp [go_sem]) (by first | simp | simp [go_sem]) (by first | simp | simp [go_sem])).mono ?_
  rintro e w1 ⟨rfl, h1⟩
  have z1 := h1.size
  simp at z1
  have hs : w.heap.size + 1 + 1 + 1 + 1 + 1 ≤ w1.heap.size := by omega
  have c1 : w1.cell? ⟨w.heap.size, 0, none⟩ = some (.int .i64 (x)) := (h1.cell (p := ⟨w.heap.size, 0, none⟩) (by simp; try omega)).trans (by first | simp | simp [go_sem])
  have c2 : w1.cell? ⟨w.heap.size, 1, none⟩ = some (.int .i64 (y)) := (h1.cell (p := ⟨w.heap.size, 1, none⟩) (by simp; try omega)).trans (by first | simp | simp [go_sem])
  have c3 : w1.cell? ⟨w.heap.size + 1, 0, none⟩ = some (.int .i64 (u)) := (h1.cell (p := ⟨w.heap.size + 1, 0, none⟩) (by simp; try omega)).trans (by first | simp | simp [go_sem])
  have c4 : w1.cell? ⟨w.heap.size + 1, 1, none⟩ = some (.int .i64 (v)) := (h1.cell (p := ⟨w.heap.size + 1, 1, none⟩) (by simp; try omega)).trans (by first | simp | simp [go_sem])
  have c5 : w1.cell? ⟨w.heap.size + 1 + 1, 0, none⟩ = some (.int .i64 (c)) := (h1.cell (p := ⟨w.heap.size + 1 + 1, 0, none⟩) (by simp; try omega)).trans (by first | simp | simp [go_sem])
  have c6 : w1.cell? ⟨w.heap.size + 1 + 1, 1, none⟩ = some (.int .i64 (d)) := (h1.cell (p := ⟨w.heap.size + 1 + 1, 1, none⟩) (by simp; try omega)).trans (by first | simp | simp [go_sem])
  have c7 : w1.cell? ⟨w.heap.size + 1 + 1 + 1, 0, none⟩ = some (.int .i64 (p)) := (h1.cell (p := ⟨w.heap.size + 1 + 1 + 1, 0, none⟩) (by simp; try omega)).trans (by first | simp | simp [go_sem])
  have c8 : w1.cell? ⟨w.heap.size + 1 + 1 + 1, 1, none⟩ = some (.int .i64 (q)) := (h1.cell (p := ⟨w.heap.size + 1 + 1 + 1, 1, none⟩) (by simp; try omega)).trans (by first | simp | simp [go_sem])
  have hb0 : Below w.heap.size w w1 := ((((((Below.refl _ _).alloc (by simp; try omega) _).alloc (by simp; try omega) _).alloc (by simp; try omega) _).alloc (by simp; try omega) _).alloc (by simp; try omega) _).trans (h1.mono (by simp; try omega))
  clear h1 z1
  go_wp2_with fail
  refine (shown_any _).mono ?_
  rintro e w2 ⟨rfl, h2⟩
  obtain ⟨d1, d2, d3, d4, d5, d6, d7, d8, hsz, hb1⟩ := next8 (keep8 ⟨c1, c2, c3, c4, c5, c6, c7, c8, Below.refl _ _⟩ h2 (by dsimp only; omega) (by dsimp only; omega) (by dsimp only; omega) (by dsimp only; omega) (by dsimp only; omega) (by dsimp only; omega) (by dsimp only; omega) (by dsimp only; omega)) (by omega) hb0
  clear c1 c2 c3 c4 c5 c6 c7 c8 hb0 h2
  have c1 := d1
  clear d1
  have c2 := d2
  clear d2
  have c3 := d3
  clear d3
  have c4 := d4
  clear d4
  have c5 := d5
  clear d5
  have c6 := d6
  clear d6
  have c7 := d7
  clear d7
  have c8 := d8
  clear d8
  have hb0 := hb1
  clear hb1
  replace hs := Nat.le_trans hs hsz
  clear hsz
  go_wp2_with fail
  dsimp only [List.append]
  first | (go_region_held3 (fun w' => w'.cell? ⟨w.heap.size, 0, none⟩ = some (.int .i64 (x)) ∧ w'.cell? ⟨w.heap.size, 1, none⟩ = some (.int .i64 (y)) ∧ w'.cell? ⟨w.heap.size + 1, 0, none⟩ = some (.int .i64 (u)) ∧ w'.cell? ⟨w.heap.size + 1, 1, none⟩ = some (.int .i64 (v)) ∧ w'.cell? ⟨w.heap.size + 1 + 1, 0, none⟩ = some (.int .i64 (c)) ∧ w'.cell? ⟨w.heap.size + 1 + 1, 1, none⟩ = some (.int .i64 (d)) ∧ w'.cell? ⟨w.heap.size + 1 + 1 + 1, 0, none⟩ = some (.int .i64 (p)) ∧ w'.cell? ⟨w.heap.size + 1 + 1 + 1, 1, none⟩ = some (.int .i64 (q)) ∧ Below w2.heap.size w2 w') ((first | assumption | exact ⟨by simp [*], by simp [*], by simp [*], by simp [*], by simp [*], by simp [*], by simp [*], by simp [*], (Below.refl _ _).drew⟩ | exact keep8 ‹_› hb (by dsimp only; omega) (by dsimp only; omega) (by dsimp only; omega) (by dsimp only; omega) (by dsimp only; omega) (by dsimp only; omega) (by dsimp only; omega) (by dsimp only; omega) | exact keepA8 ‹_› _ (by dsimp only; omega) (by dsimp only; omega) (by dsimp only; omega) (by dsimp only; omega) (by dsimp only; omega) (by dsimp only; omega) (by dsimp only; omega) (by dsimp only; omega) | exact keepS8 (keepS8 ‹_› _ _ (by dsimp only; omega) (by dsimp only; omega) (by dsimp only; omega) (by dsimp only; omega) (by dsimp only; omega) (by dsimp only; omega) (by dsimp only; omega) (by dsimp only; omega) (by dsimp only; omega)) _ _ (by dsimp only; omega) (by dsimp only; omega) (by dsimp only; omega) (by dsimp only; omega) (by dsimp only; omega) (by dsimp only; omega) (by dsimp only; omega) (by dsimp only; omega) (by dsimp only; omega))) ((first | (go_at_call 12; with_reducible refine (SIDE.out _).mono ?_; rintro e w' ⟨rfl, hb⟩) | (go_at_call 13; with_reducible refine (R5SIDE.out _).mono ?_; rintro e w' ⟨rfl, hb⟩) | (go_at_call 14; with_reducible refine (BETWEEN.out _).mono ?_; rintro e w' ⟨rfl, hb⟩) | (go_at_call 15; with_reducible refine (R5BETWEEN.out _).mono ?_; rintro e w' ⟨rfl, hb⟩) | (go_at_call 16; with_reducible refine (WITHIN.out _).mono ?_; rintro e w' ⟨rfl, hb⟩) | (go_at_call 17; with_reducible refine (R5WITHIN.out _).mono ?_; rintro e w' ⟨rfl, hb⟩) | (go_at_call 18; with_reducible refine (SHARP.out _).mono ?_; rintro e w' ⟨rfl, hb⟩) | (go_at_call 19; with_reducible refine (R5SHARP.out _).mono ?_; rintro e w' ⟨rfl, hb⟩) | (go_at_call 20; with_reducible refine (MITER.out _).mono ?_; rintro e w' ⟨rfl, hb⟩) | (go_at_call 21; with_reducible refine (R5MITER.out _).mono ?_; rintro e w' ⟨rfl, hb⟩) | (go_at_call 22; with_reducible refine (QUARTER.out _).mono ?_; rintro e w' ⟨rfl, hb⟩) | (go_at_call 23; with_reducible refine (R5QUARTER.out _).mono ?_; rintro e w' ⟨rfl, hb⟩) | (go_at_call 24; with_reducible refine (BEFORE.out _).mono ?_; rintro e w' ⟨rfl, hb⟩) | (go_at_call 25; with_reducible refine (R5BEFORE.out _).mono ?_; rintro e w' ⟨rfl, hb⟩)))) | fail
  all_goals
    have hF := belK8 ‹_ ∧ _ ∧ _ ∧ _ ∧ _ ∧ _ ∧ _ ∧ _ ∧ Below w2.heap.size w2 _›
    go_wp2
    go_ret
    exact ⟨by first | rfl | simp, hb0.trans (hF.mono (by omega))⟩

theorem walk_SignTells (x y u v c d p q l : Int) (w : World) (hl : -9223372036854775808 ≤ l ∧ l ≤ 9223372036854775807) :
    Calls Try.prog 3 #[P2 x y, P2 u v, P2 c d, P2 p q, .int .i64 l] w fun e w' => e = .returned (.bool true) ∧ Below w.heap.size w w' := by
  cases na : allNear [(x, y), (u, v), (c, d), (p, q)] with
  | false => exact tells_far _ _ _ _ _ _ _ _ _ w hl na
  | true => exact tells_main _ _ _ _ _ _ _ _ _ w hl na
end Go.Proofs.Ytfgkndfcddnhlaa
