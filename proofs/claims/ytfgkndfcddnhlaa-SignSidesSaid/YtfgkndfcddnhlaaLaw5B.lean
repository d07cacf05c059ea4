/- The walks of SignSides, SignQuarter. -/
import Derived.Test.YtfgkndfcddnhlaaLaw5S
namespace Go.Proofs.Ytfgkndfcddnhlaa
open Go.RowKit
set_option linter.unusedVariables false
set_option linter.unusedSimpArgs false
set_option maxHeartbeats 4000000
set_option maxRecDepth 100000

theorem sides_far (x y u v c d : Int) (w : World) (na : allNear [(x, y), (u, v), (c, d)] = false) :
    Calls Try.prog 4 #[P2 x y, P2 u v, P2 c d] w fun e w' => e = .returned (.bool true) ∧ Below w.heap.size w w' := by
  have NA := Lib.hid na
  clear na
  go_enter Try.func4, Try.ntmps4
  go_wp2_with fail
  refine (near3_any _ x y u v c d false _ NA.out (by simp) (by first | simp | simp [go_sem]) (by first | simp | simp [go_sem]) (by first | simp | simp [go_sem]) (by first | simp | simp [go_sem]) (by first | simp | simp [go_sem]) (by first | simp | simp [go_sem])).mono ?_
  rintro e w1 ⟨rfl, h1⟩
  have z1 := h1.size
  simp at z1
  have hs : w.heap.size + 1 + 1 + 1 + 1 ≤ w1.heap.size := by omega
  have c1 : w1.cell? ⟨w.heap.size, 0, none⟩ = some (.int .i64 (x)) := (h1.cell (p := ⟨w.heap.size, 0, none⟩) (by simp; try omega)).trans (by first | simp | simp [go_sem])
  have c2 : w1.cell? ⟨w.heap.size, 1, none⟩ = some (.int .i64 (y)) := (h1.cell (p := ⟨w.heap.size, 1, none⟩) (by simp; try omega)).trans (by first | simp | simp [go_sem])
  have c3 : w1.cell? ⟨w.heap.size + 1, 0, none⟩ = some (.int .i64 (u)) := (h1.cell (p := ⟨w.heap.size + 1, 0, none⟩) (by simp; try omega)).trans (by first | simp | simp [go_sem])
  have c4 : w1.cell? ⟨w.heap.size + 1, 1, none⟩ = some (.int .i64 (v)) := (h1.cell (p := ⟨w.heap.size + 1, 1, none⟩) (by simp; try omega)).trans (by first | simp | simp [go_sem])
  have c5 : w1.cell? ⟨w.heap.size + 1 + 1, 0, none⟩ = some (.int .i64 (c)) := (h1.cell (p := ⟨w.heap.size + 1 + 1, 0, none⟩) (by simp; try omega)).trans (by first | simp | simp [go_sem])
  have c6 : w1.cell? ⟨w.heap.size + 1 + 1, 1, none⟩ = some (.int .i64 (d)) := (h1.cell (p := ⟨w.heap.size + 1 + 1, 1, none⟩) (by simp; try omega)).trans (by first | simp | simp [go_sem])
  have hb0 : Below w.heap.size w w1 := (((((Below.refl _ _).alloc (by simp; try omega) _).alloc (by simp; try omega) _).alloc (by simp; try omega) _).alloc (by simp; try omega) _).trans (h1.mono (by simp; try omega))
  clear h1 z1
  go_wp2_with fail
  refine (shown_any _).mono ?_
  rintro e w2 ⟨rfl, h2⟩
  go_wp2
  go_ret
  exact ⟨rfl, hb0.trans (h2.mono (by omega))⟩

theorem sides_main (x y u v c d : Int) (w : World) (na : allNear [(x, y), (u, v), (c, d)] = true) :
    Calls Try.prog 4 #[P2 x y, P2 u v, P2 c d] w fun e w' => e = .returned (.bool true) ∧ Below w.heap.size w w' := by
  obtain ⟨hx, hy, hu, hv, hc, hd⟩ := near_3 na
  have t1 := side_turn x y u v c d
  have t2 := side_turn2 x y u v c d
  have t3 := side_swap x y u v c d
  have t4 := side_last x y u v c d
  have t5 := side_one x y c d
  have t6 := side_back x y u v
  have b3 := sideV_3 x y u v c d
  obtain ⟨s, hs⟩ : ∃ s, sideV x y u v c d = s := ⟨_, rfl⟩
  rw [hs] at t1 t2 t3 t4 b3
  have e1 : IntKind.i64.wrap (-s) = -s := IntWalk.i64_in _ (by omega)
  have S00 := fun w => side_any x y u v c d w hx hy hu hv hc hd
  simp only [hs] at S00
  have S0 := Lib.hid S00
  clear S00
  have S10 := fun w => side_any u v c d x y w hu hv hc hd hx hy
  simp only [t1] at S10
  have S1 := Lib.hid S10
  clear S10
  have S20 := fun w => side_any c d x y u v w hc hd hx hy hu hv
  simp only [t2] at S20
  have S2 := Lib.hid S20
  clear S20
  have S30 := fun w => side_any u v x y c d w hu hv hx hy hc hd
  simp only [t3] at S30
  have S3 := Lib.hid S30
  clear S30
  have S40 := fun w => side_any x y c d u v w hx hy hc hd hu hv
  simp only [t4] at S40
  have S4 := Lib.hid S40
  clear S40
  have S50 := fun w => side_any x y x y c d w hx hy hx hy hc hd
  simp only [t5] at S50
  have S5 := Lib.hid S50
  clear S50
  have S60 := fun w => side_any x y u v x y w hx hy hu hv hx hy
  simp only [t6] at S60
  have S6 := Lib.hid S60
  clear S60
  clear hs t1 t2 t3 t4 t5 t6 b3
  have NA := Lib.hid na
  clear na hx hy hu hv hc hd
  go_enter Try.func4, Try.ntmps4
  go_wp2_with fail
  refine (near3_any _ x y u v c d true _ NA.out (by simp) (by first | simp | simp [go_sem]) (by first | simp | simp [go_sem]) (by first | simp | simp [go_sem]) (by first | simp | simp [go_sem]) (by first | simp | simp [go_sem]) (by first | simp | simp [go_sem])).mono ?_
  rintro e w1 ⟨rfl, h1⟩
  have z1 := h1.size
  simp at z1
  have hs : w.heap.size + 1 + 1 + 1 + 1 ≤ w1.heap.size := by omega
  have c1 : w1.cell? ⟨w.heap.size, 0, none⟩ = some (.int .i64 (x)) := (h1.cell (p := ⟨w.heap.size, 0, none⟩) (by simp; try omega)).trans (by first | simp | simp [go_sem])
  have c2 : w1.cell? ⟨w.heap.size, 1, none⟩ = some (.int .i64 (y)) := (h1.cell (p := ⟨w.heap.size, 1, none⟩) (by simp; try omega)).trans (by first | simp | simp [go_sem])
  have c3 : w1.cell? ⟨w.heap.size + 1, 0, none⟩ = some (.int .i64 (u)) := (h1.cell (p := ⟨w.heap.size + 1, 0, none⟩) (by simp; try omega)).trans (by first | simp | simp [go_sem])
  have c4 : w1.cell? ⟨w.heap.size + 1, 1, none⟩ = some (.int .i64 (v)) := (h1.cell (p := ⟨w.heap.size + 1, 1, none⟩) (by simp; try omega)).trans (by first | simp | simp [go_sem])
  have c5 : w1.cell? ⟨w.heap.size + 1 + 1, 0, none⟩ = some (.int .i64 (c)) := (h1.cell (p := ⟨w.heap.size + 1 + 1, 0, none⟩) (by simp; try omega)).trans (by first | simp | simp [go_sem])
  have c6 : w1.cell? ⟨w.heap.size + 1 + 1, 1, none⟩ = some (.int .i64 (d)) := (h1.cell (p := ⟨w.heap.size + 1 + 1, 1, none⟩) (by simp; try omega)).trans (by first | simp | simp [go_sem])
  have hb0 : Below w.heap.size w w1 := (((((Below.refl _ _).alloc (by simp; try omega) _).alloc (by simp; try omega) _).alloc (by simp; try omega) _).alloc (by simp; try omega) _).trans (h1.mono (by simp; try omega))
  clear h1 z1
  go_wp2_with fail
  refine (shown_any _).mono ?_
  rintro e w2 ⟨rfl, h2⟩
  obtain ⟨d1, d2, d3, d4, d5, d6, hsz, hb1⟩ := next6 (keep6 ⟨c1, c2, c3, c4, c5, c6, Below.refl _ _⟩ h2 (by dsimp only; omega) (by dsimp only; omega) (by dsimp only; omega) (by dsimp only; omega) (by dsimp only; omega) (by dsimp only; omega)) (by omega) hb0
  clear c1 c2 c3 c4 c5 c6 hb0 h2
  have c1 := d1
  clear d1
  have c2 := d2
  clear d2
  have c3 := d3
  clear d3
  have c4 := d4
  clear d4
  have c5 := d5
  clear d5
  have c6 := d6
  clear d6
  have hb0 := hb1
  clear hb1
  replace hs := Nat.le_trans hs hsz
  clear hsz
  go_wp2_with fail
  refine (S0.out _).mono ?_
  rintro e w3 ⟨rfl, h3⟩
  obtain ⟨d1, d2, d3, d4, d5, d6, hsz, hb1⟩ := next6 (keep6 ⟨c1, c2, c3, c4, c5, c6, Below.refl _ _⟩ h3 (by dsimp only; omega) (by dsimp only; omega) (by dsimp only; omega) (by dsimp only; omega) (by dsimp only; omega) (by dsimp only; omega)) (by omega) hb0
  clear c1 c2 c3 c4 c5 c6 hb0 h3
  have c1 := d1
  clear d1
  have c2 := d2
  clear d2
  have c3 := d3
  clear d3
  have c4 := d4
  clear d4
  have c5 := d5
  clear d5
  have c6 := d6
  clear d6
  have hb0 := hb1
  clear hb1
  replace hs := Nat.le_trans hs hsz
  clear hsz
  go_wp2_with fail
  refine (S1.out _).mono ?_
  rintro e w4 ⟨rfl, h4⟩
  obtain ⟨d1, d2, d3, d4, d5, d6, hsz, hb1⟩ := next6 (keep6 ⟨c1, c2, c3, c4, c5, c6, Below.refl _ _⟩ h4 (by dsimp only; omega) (by dsimp only; omega) (by dsimp only; omega) (by dsimp only; omega) (by dsimp only; omega) (by dsimp only; omega)) (by omega) hb0
  clear c1 c2 c3 c4 c5 c6 hb0 h4
  have c1 := d1
  clear d1
  have c2 := d2
  clear d2
  have c3 := d3
  clear d3
  have c4 := d4
  clear d4
  have c5 := d5
  clear d5
  have c6 := d6
  clear d6
  have hb0 := hb1
  clear hb1
  replace hs := Nat.le_trans hs hsz
  clear hsz
  go_wp2_with fail
  refine (S2.out _).mono ?_
  rintro e w5 ⟨rfl, h5⟩
  obtain ⟨d1, d2, d3, d4, d5, d6, hsz, hb1⟩ := next6 (keep6 ⟨c1, c2, c3, c4, c5, c6, Below.refl _ _⟩ h5 (by dsimp only; omega) (by dsimp only; omega) (by dsimp only; omega) (by dsimp only; omega) (by dsimp only; omega) (by dsimp only; omega)) (by omega) hb0
  clear c1 c2 c3 c4 c5 c6 hb0 h5
  have c1 := d1
  clear d1
  have c2 := d2
  clear d2
  have c3 := d3
  clear d3
  have c4 := d4
  clear d4
  have c5 := d5
  clear d5
  have c6 := d6
  clear d6
  have hb0 := hb1
  clear hb1
  replace hs := Nat.le_trans hs hsz
  clear hsz
  go_wp2_with fail
  refine (S3.out _).mono ?_
  rintro e w6 ⟨rfl, h6⟩
  obtain ⟨d1, d2, d3, d4, d5, d6, hsz, hb1⟩ := next6 (keep6 ⟨c1, c2, c3, c4, c5, c6, Below.refl _ _⟩ h6 (by dsimp only; omega) (by dsimp only; omega) (by dsimp only; omega) (by dsimp only; omega) (by dsimp only; omega) (by dsimp only; omega)) (by omega) hb0
  clear c1 c2 c3 c4 c5 c6 hb0 h6
  have c1 := d1
  clear d1
  have c2 := d2
  clear d2
  have c3 := d3
  clear d3
  have c4 := d4
  clear d4
  have c5 := d5
  clear d5
  have c6 := d6
  clear d6
  have hb0 := hb1
  clear hb1
  replace hs := Nat.le_trans hs hsz
  clear hsz
  go_wp2_with fail
  refine (S4.out _).mono ?_
  rintro e w7 ⟨rfl, h7⟩
  obtain ⟨d1, d2, d3, d4, d5, d6, hsz, hb1⟩ := next6 (keep6 ⟨c1, c2, c3, c4, c5, c6, Below.refl _ _⟩ h7 (by dsimp only; omega) (by dsimp only; omega) (by dsimp only; omega) (by dsimp only; omega) (by dsimp only; omega) (by dsimp only; omega)) (by omega) hb0
  clear c1 c2 c3 c4 c5 c6 hb0 h7
  have c1 := d1
  clear d1
  have c2 := d2
  clear d2
  have c3 := d3
  clear d3
  have c4 := d4
  clear d4
  have c5 := d5
  clear d5
  have c6 := d6
  clear d6
  have hb0 := hb1
  clear hb1
  replace hs := Nat.le_trans hs hsz
  clear hsz
  go_wp2_with fail
  refine (S5.out _).mono ?_
  rintro e w8 ⟨rfl, h8⟩
  obtain ⟨d1, d2, d3, d4, d5, d6, hsz, hb1⟩ := next6 (keep6 ⟨c1, c2, c3, c4, c5, c6, Below.refl _ _⟩ h8 (by dsimp only; omega) (by dsimp only; omega) (by dsimp only; omega) (by dsimp only; omega) (by dsimp only; omega) (by dsimp only; omega)) (by omega) hb0
  clear c1 c2 c3 c4 c5 c6 hb0 h8
  have c1 := d1
  clear d1
  have c2 := d2
  clear d2
  have c3 := d3
  clear d3
  have c4 := d4
  clear d4
  have c5 := d5
  clear d5
  have c6 := d6
  clear d6
  have hb0 := hb1
  clear hb1
  replace hs := Nat.le_trans hs hsz
  clear hsz
  go_wp2_with fail
  refine (S6.out _).mono ?_
  rintro e w9 ⟨rfl, h9⟩
  obtain ⟨d1, d2, d3, d4, d5, d6, hsz, hb1⟩ := next6 (keep6 ⟨c1, c2, c3, c4, c5, c6, Below.refl _ _⟩ h9 (by dsimp only; omega) (by dsimp only; omega) (by dsimp only; omega) (by dsimp only; omega) (by dsimp only; omega) (by dsimp only; omega)) (by omega) hb0
  clear c1 c2 c3 c4 c5 c6 hb0 h9
  have c1 := d1
  clear d1
  have c2 := d2
  clear d2
  have c3 := d3
  clear d3
  have c4 := d4
  clear d4
  have c5 := d5
  clear d5
  have c6 := d6
  clear d6
  have hb0 := hb1
  clear hb1
  replace hs := Nat.le_trans hs hsz
  clear hsz
  go_wp2
  go_ret
  exact ⟨by first | rfl | simp, hb0⟩

theorem walk_SignSides (x y u v c d : Int) (w : World) :
    Calls Try.prog 4 #[P2 x y, P2 u v, P2 c d] w fun e w' => e = .returned (.bool true) ∧ Below w.heap.size w w' := by
  cases na : allNear [(x, y), (u, v), (c, d)] with
  | false => exact sides_far _ _ _ _ _ _  w na
  | true => exact sides_main _ _ _ _ _ _  w na

theorem quarter_far (x y : Int) (w : World) (na : allNear [(x, y)] = false) :
    Calls Try.prog 9 #[P2 x y] w fun e w' => e = .returned (.bool true) ∧ Below w.heap.size w w' := by
  have NA := Lib.hid na
  clear na
  go_enter Try.func9, Try.ntmps9
  go_wp2_with fail
  refine (near1_any _ x y false _ NA.out (by simp) (by first | simp | simp [go_sem]) (by first | simp | simp [go_sem])).mono ?_
  rintro e w1 ⟨rfl, h1⟩
  have z1 := h1.size
  simp at z1
  have hs : w.heap.size + 1 + 1 ≤ w1.heap.size := by omega
  have c1 : w1.cell? ⟨w.heap.size, 0, none⟩ = some (.int .i64 (x)) := (h1.cell (p := ⟨w.heap.size, 0, none⟩) (by simp; try omega)).trans (by first | simp | simp [go_sem])
  have c2 : w1.cell? ⟨w.heap.size, 1, none⟩ = some (.int .i64 (y)) := (h1.cell (p := ⟨w.heap.size, 1, none⟩) (by simp; try omega)).trans (by first | simp | simp [go_sem])
  have hb0 : Below w.heap.size w w1 := (((Below.refl _ _).alloc (by simp; try omega) _).alloc (by simp; try omega) _).trans (h1.mono (by simp; try omega))
  clear h1 z1
  go_wp2_with fail
  refine (shown_any _).mono ?_
  rintro e w2 ⟨rfl, h2⟩
  go_wp2
  go_ret
  exact ⟨rfl, hb0.trans (h2.mono (by omega))⟩

theorem quarter0_main (x y : Int) (w : World) (na : allNear [(x, y)] = true) (h0 : x = 0 ∧ y = 0) :
    Calls Try.prog 9 #[P2 x y] w fun e w' => e = .returned (.bool true) ∧ Below w.heap.size w w' := by
  obtain ⟨hx, hy⟩ := near_1 na
  have hq : quarterV x y = 0 := by rw [h0.1, h0.2]; decide
  have q1 : (x == 0) = true := by simp; exact h0.1
  have q2 : (y == 0) = true := by simp; exact h0.2
  have Q00 := fun w => quarter_any x y w
  simp only [hq] at Q00
  have Q0 := Lib.hid Q00
  clear Q00
  clear hq h0
  have NA := Lib.hid na
  clear na hx hy
  go_enter Try.func9, Try.ntmps9
  go_wp2_with fail
  refine (near1_any _ x y true _ NA.out (by simp) (by first | simp | simp [go_sem]) (by first | simp | simp [go_sem])).mono ?_
  rintro e w1 ⟨rfl, h1⟩
  have z1 := h1.size
  simp at z1
  have hs : w.heap.size + 1 + 1 ≤ w1.heap.size := by omega
  have c1 : w1.cell? ⟨w.heap.size, 0, none⟩ = some (.int .i64 (x)) := (h1.cell (p := ⟨w.heap.size, 0, none⟩) (by simp; try omega)).trans (by first | simp | simp [go_sem])
  have c2 : w1.cell? ⟨w.heap.size, 1, none⟩ = some (.int .i64 (y)) := (h1.cell (p := ⟨w.heap.size, 1, none⟩) (by simp; try omega)).trans (by first | simp | simp [go_sem])
  have hb0 : Below w.heap.size w w1 := (((Below.refl _ _).alloc (by simp; try omega) _).alloc (by simp; try omega) _).trans (h1.mono (by simp; try omega))
  clear h1 z1
  go_wp2_with fail
  refine (shown_any _).mono ?_
  rintro e w2 ⟨rfl, h2⟩
  obtain ⟨d1, d2, hsz, hb1⟩ := next2 (keep2 ⟨c1, c2, Below.refl _ _⟩ h2 (by dsimp only; omega) (by dsimp only; omega)) (by omega) hb0
  clear c1 c2 hb0 h2
  have c1 := d1
  clear d1
  have c2 := d2
  clear d2
  have hb0 := hb1
  clear hb1
  replace hs := Nat.le_trans hs hsz
  clear hsz
  go_wp2_with fail
  refine (Q0.out _).mono ?_
  rintro e w3 ⟨rfl, h3⟩
  obtain ⟨d1, d2, hsz, hb1⟩ := next2 (keep2 ⟨c1, c2, Below.refl _ _⟩ h3 (by dsimp only; omega) (by dsimp only; omega)) (by omega) hb0
  clear c1 c2 hb0 h3
  have c1 := d1
  clear d1
  have c2 := d2
  clear d2
  have hb0 := hb1
  clear hb1
  replace hs := Nat.le_trans hs hsz
  clear hsz
  go_wp2
  go_ret
  exact ⟨by first | rfl | simp, hb0⟩

theorem quarterff_main (x y : Int) (w : World) (na : allNear [(x, y)] = true) (h0 : ¬ (x = 0 ∧ y = 0)) (q1 : (x == 0) = false) (q2 : (y == 0) = false) :
    Calls Try.prog 9 #[P2 x y] w fun e w' => e = .returned (.bool true) ∧ Below w.heap.size w w' := by
  obtain ⟨hx, hy⟩ := near_1 na
  have ql := quarter_left x y h0
  have qn := quarter_neg x y h0
  have qb := quarter_bd x y
  have bl := before_left x y h0
  have dl := dot_left x y
  obtain ⟨q, hq⟩ : ∃ q, quarterV x y = q := ⟨_, rfl⟩
  obtain ⟨ny, hny⟩ : ∃ ny, -y = ny := ⟨_, rfl⟩
  obtain ⟨nx, hnx⟩ : ∃ nx, -x = nx := ⟨_, rfl⟩
  rw [hq] at ql qn qb bl
  rw [hny] at ql bl dl qn
  rw [hnx] at qn
  obtain ⟨r1, hr1⟩ : ∃ r, (q + 1) % 4 = r := ⟨_, rfl⟩
  obtain ⟨r2, hr2⟩ : ∃ r, (q + 2) % 4 = r := ⟨_, rfl⟩
  rw [hr1] at ql
  rw [hr2] at qn
  have bf : beforeV x y ny x = (q != 3) := by rw [bl]; by_cases g : q = 3 <;> simp [g]
  have sf : decide (dotN x y ny x < 0) = false := by rw [dl]; rfl
  have bny : -1073741824 ≤ ny ∧ ny ≤ 1073741824 := by omega
  have e1 : IntKind.i64.wrap (q + 1) = q + 1 := IntWalk.i64_in _ (by omega)
  have e2 : IntKind.i64.wrap (q + 2) = q + 2 := IntWalk.i64_in _ (by omega)
  have e3 : Int.tmod (q + 1) 4 = r1 := by rw [Int.tmod_eq_emod_of_nonneg (by omega)]; exact hr1
  have e4 : Int.tmod (q + 2) 4 = r2 := by rw [Int.tmod_eq_emod_of_nonneg (by omega)]; exact hr2
  have e5 : IntKind.i64.wrap r1 = r1 := IntWalk.i64_in _ (by omega)
  have e6 : IntKind.i64.wrap r2 = r2 := IntWalk.i64_in _ (by omega)
  have g1 : decide (0 ≤ q) = true := by simp; omega
  have g2 : decide (q ≤ 3) = true := by simp; omega
  have Q00 := fun w => quarter_any x y w
  simp only [hq] at Q00
  have Q0 := Lib.hid Q00
  clear Q00
  have LF0 := fun w => r4left_any x y w (by omega) (by omega)
  simp only [hny] at LF0
  have LF := Lib.hid LF0
  clear LF0
  have Q10 := fun w => quarter_any ny x w
  simp only [ql] at Q10
  have Q1 := Lib.hid Q10
  clear Q10
  have NG0 := fun w => r4neg_any x y w (by omega) (by omega)
  simp only [hnx, hny] at NG0
  have NG := Lib.hid NG0
  clear NG0
  have Q20 := fun w => quarter_any nx ny w
  simp only [qn] at Q20
  have Q2 := Lib.hid Q20
  clear Q20
  have BF0 := fun w => before_any x y ny x w hx hy bny hx
  simp only [bf] at BF0
  have BF := Lib.hid BF0
  clear BF0
  have SH0 := fun w => sharp_any x y ny x w hx hy bny hx
  simp only [sf] at SH0
  have SH := Lib.hid SH0
  clear SH0
  clear ql qn qb bl dl hq hny hnx hr1 hr2 bf sf bny
  clear h0
  have NA := Lib.hid na
  clear na hx hy
  go_enter Try.func9, Try.ntmps9
  go_wp2_with fail
  refine (near1_any _ x y true _ NA.out (by simp) (by first | simp | simp [go_sem]) (by first | simp | simp [go_sem])).mono ?_
  rintro e w1 ⟨rfl, h1⟩
  have z1 := h1.size
  simp at z1
  have hs : w.heap.size + 1 + 1 ≤ w1.heap.size := by omega
  have c1 : w1.cell? ⟨w.heap.size, 0, none⟩ = some (.int .i64 (x)) := (h1.cell (p := ⟨w.heap.size, 0, none⟩) (by simp; try omega)).trans (by first | simp | simp [go_sem])
  have c2 : w1.cell? ⟨w.heap.size, 1, none⟩ = some (.int .i64 (y)) := (h1.cell (p := ⟨w.heap.size, 1, none⟩) (by simp; try omega)).trans (by first | simp | simp [go_sem])
  have hb0 : Below w.heap.size w w1 := (((Below.refl _ _).alloc (by simp; try omega) _).alloc (by simp; try omega) _).trans (h1.mono (by simp; try omega))
  clear h1 z1
  go_wp2_with fail
  refine (shown_any _).mono ?_
  rintro e w2 ⟨rfl, h2⟩
  obtain ⟨d1, d2, hsz, hb1⟩ := next2 (keep2 ⟨c1, c2, Below.refl _ _⟩ h2 (by dsimp only; omega) (by dsimp only; omega)) (by omega) hb0
  clear c1 c2 hb0 h2
  have c1 := d1
  clear d1
  have c2 := d2
  clear d2
  have hb0 := hb1
  clear hb1
  replace hs := Nat.le_trans hs hsz
  clear hsz
  go_wp2_with fail
  refine (Q0.out _).mono ?_
  rintro e w3 ⟨rfl, h3⟩
  obtain ⟨d1, d2, hsz, hb1⟩ := next2 (keep2 ⟨c1, c2, Below.refl _ _⟩ h3 (by dsimp only; omega) (by dsimp only; omega)) (by omega) hb0
  clear c1 c2 hb0 h3
  have c1 := d1
  clear d1
  have c2 := d2
  clear d2
  have hb0 := hb1
  clear hb1
  replace hs := Nat.le_trans hs hsz
  clear hsz
  go_wp2_with fail
  refine (LF.out _).mono ?_
  rintro e w4 ⟨rfl, h4⟩
  obtain ⟨d1, d2, hsz, hb1⟩ := next2 (keep2 ⟨c1, c2, Below.refl _ _⟩ h4 (by dsimp only; omega) (by dsimp only; omega)) (by omega) hb0
  clear c1 c2 hb0 h4
  have c1 := d1
  clear d1
  have c2 := d2
  clear d2
  have hb0 := hb1
  clear hb1
  replace hs := Nat.le_trans hs hsz
  clear hsz
  go_upto_region 7 with fail
  refine any_gen (fun z => z.cell? ⟨w.heap.size, 0, none⟩ = some (.int .i64 (x)) ∧ z.cell? ⟨w.heap.size, 1, none⟩ = some (.int .i64 (y)) ∧ z.cell? ⟨w4.heap.size, 0, none⟩ = some (.int .i64 (ny)) ∧ z.cell? ⟨w4.heap.size, 1, none⟩ = some (.int .i64 (x)) ∧ w4.heap.size + 1 ≤ z.heap.size ∧ Below w.heap.size w z) ⟨(World.cell?_alloc_old _ _ _ (by dsimp only; omega)).trans c1, (World.cell?_alloc_old _ _ _ (by dsimp only; omega)).trans c2, by simp, by simp, by simp, hb0.alloc (by first | omega | exact hb0.size) _⟩ ?_
  clear c1 c2 hb0
  rintro w5 ⟨c1, c2, c3, c4, hsz, hb0⟩
  have hz5 : w4.heap.size + 1 ≤ w5.heap.size := hsz
  clear hsz
  go_wp2_with fail
  refine (Q1.out _).mono ?_
  rintro e w6 ⟨rfl, h6⟩
  obtain ⟨d1, d2, d3, d4, hsz, hb1⟩ := next4 (keep4 ⟨c1, c2, c3, c4, Below.refl _ _⟩ h6 (by dsimp only; omega) (by dsimp only; omega) (by dsimp only; omega) (by dsimp only; omega)) (by omega) hb0
  clear c1 c2 c3 c4 hb0 h6
  have c1 := d1
  clear d1
  have c2 := d2
  clear d2
  have c3 := d3
  clear d3
  have c4 := d4
  clear d4
  have hb0 := hb1
  clear hb1
  replace hz5 := Nat.le_trans hz5 hsz
  clear hsz
  go_wp2_with fail
  refine (NG.out _).mono ?_
  rintro e w7 ⟨rfl, h7⟩
  obtain ⟨d1, d2, d3, d4, hsz, hb1⟩ := next4 (keep4 ⟨c1, c2, c3, c4, Below.refl _ _⟩ h7 (by dsimp only; omega) (by dsimp only; omega) (by dsimp only; omega) (by dsimp only; omega)) (by omega) hb0
  clear c1 c2 c3 c4 hb0 h7
  have c1 := d1
  clear d1
  have c2 := d2
  clear d2
  have c3 := d3
  clear d3
  have c4 := d4
  clear d4
  have hb0 := hb1
  clear hb1
  replace hz5 := Nat.le_trans hz5 hsz
  clear hsz
  go_wp2_with fail
  refine (Q2.out _).mono ?_
  rintro e w8 ⟨rfl, h8⟩
  obtain ⟨d1, d2, d3, d4, hsz, hb1⟩ := next4 (keep4 ⟨c1, c2, c3, c4, Below.refl _ _⟩ h8 (by dsimp only; omega) (by dsimp only; omega) (by dsimp only; omega) (by dsimp only; omega)) (by omega) hb0
  clear c1 c2 c3 c4 hb0 h8
  have c1 := d1
  clear d1
  have c2 := d2
  clear d2
  have c3 := d3
  clear d3
  have c4 := d4
  clear d4
  have hb0 := hb1
  clear hb1
  replace hz5 := Nat.le_trans hz5 hsz
  clear hsz
  go_wp2_with fail
  refine (BF.out _).mono ?_
  rintro e w9 ⟨rfl, h9⟩
  obtain ⟨d1, d2, d3, d4, hsz, hb1⟩ := next4 (keep4 ⟨c1, c2, c3, c4, Below.refl _ _⟩ h9 (by dsimp only; omega) (by dsimp only; omega) (by dsimp only; omega) (by dsimp only; omega)) (by omega) hb0
  clear c1 c2 c3 c4 hb0 h9
  have c1 := d1
  clear d1
  have c2 := d2
  clear d2
  have c3 := d3
  clear d3
  have c4 := d4
  clear d4
  have hb0 := hb1
  clear hb1
  replace hz5 := Nat.le_trans hz5 hsz
  clear hsz
  go_wp2_with fail
  refine (SH.out _).mono ?_
  rintro e w10 ⟨rfl, h10⟩
  obtain ⟨d1, d2, d3, d4, hsz, hb1⟩ := next4 (keep4 ⟨c1, c2, c3, c4, Below.refl _ _⟩ h10 (by dsimp only; omega) (by dsimp only; omega) (by dsimp only; omega) (by dsimp only; omega)) (by omega) hb0
  clear c1 c2 c3 c4 hb0 h10
  have c1 := d1
  clear d1
  have c2 := d2
  clear d2
  have c3 := d3
  clear d3
  have c4 := d4
  clear d4
  have hb0 := hb1
  clear hb1
  replace hz5 := Nat.le_trans hz5 hsz
  clear hsz
  go_wp2
  go_ret
  exact ⟨by first | rfl | simp, hb0⟩

theorem quarterft_main (x y : Int) (w : World) (na : allNear [(x, y)] = true) (h0 : ¬ (x = 0 ∧ y = 0)) (q1 : (x == 0) = false) (q2 : (y == 0) = true) :
    Calls Try.prog 9 #[P2 x y] w fun e w' => e = .returned (.bool true) ∧ Below w.heap.size w w' := by
  obtain ⟨hx, hy⟩ := near_1 na
  have ql := quarter_left x y h0
  have qn := quarter_neg x y h0
  have qb := quarter_bd x y
  have bl := before_left x y h0
  have dl := dot_left x y
  obtain ⟨q, hq⟩ : ∃ q, quarterV x y = q := ⟨_, rfl⟩
  obtain ⟨ny, hny⟩ : ∃ ny, -y = ny := ⟨_, rfl⟩
  obtain ⟨nx, hnx⟩ : ∃ nx, -x = nx := ⟨_, rfl⟩
  rw [hq] at ql qn qb bl
  rw [hny] at ql bl dl qn
  rw [hnx] at qn
  obtain ⟨r1, hr1⟩ : ∃ r, (q + 1) % 4 = r := ⟨_, rfl⟩
  obtain ⟨r2, hr2⟩ : ∃ r, (q + 2) % 4 = r := ⟨_, rfl⟩
  rw [hr1] at ql
  rw [hr2] at qn
  have bf : beforeV x y ny x = (q != 3) := by rw [bl]; by_cases g : q = 3 <;> simp [g]
  have sf : decide (dotN x y ny x < 0) = false := by rw [dl]; rfl
  have bny : -1073741824 ≤ ny ∧ ny ≤ 1073741824 := by omega
  have e1 : IntKind.i64.wrap (q + 1) = q + 1 := IntWalk.i64_in _ (by omega)
  have e2 : IntKind.i64.wrap (q + 2) = q + 2 := IntWalk.i64_in _ (by omega)
  have e3 : Int.tmod (q + 1) 4 = r1 := by rw [Int.tmod_eq_emod_of_nonneg (by omega)]; exact hr1
  have e4 : Int.tmod (q + 2) 4 = r2 := by rw [Int.tmod_eq_emod_of_nonneg (by omega)]; exact hr2
  have e5 : IntKind.i64.wrap r1 = r1 := IntWalk.i64_in _ (by omega)
  have e6 : IntKind.i64.wrap r2 = r2 := IntWalk.i64_in _ (by omega)
  have g1 : decide (0 ≤ q) = true := by simp; omega
  have g2 : decide (q ≤ 3) = true := by simp; omega
  have Q00 := fun w => quarter_any x y w
  simp only [hq] at Q00
  have Q0 := Lib.hid Q00
  clear Q00
  have LF0 := fun w => r4left_any x y w (by omega) (by omega)
  simp only [hny] at LF0
  have LF := Lib.hid LF0
  clear LF0
  have Q10 := fun w => quarter_any ny x w
  simp only [ql] at Q10
  have Q1 := Lib.hid Q10
  clear Q10
  have NG0 := fun w => r4neg_any x y w (by omega) (by omega)
  simp only [hnx, hny] at NG0
  have NG := Lib.hid NG0
  clear NG0
  have Q20 := fun w => quarter_any nx ny w
  simp only [qn] at Q20
  have Q2 := Lib.hid Q20
  clear Q20
  have BF0 := fun w => before_any x y ny x w hx hy bny hx
  simp only [bf] at BF0
  have BF := Lib.hid BF0
  clear BF0
  have SH0 := fun w => sharp_any x y ny x w hx hy bny hx
  simp only [sf] at SH0
  have SH := Lib.hid SH0
  clear SH0
  clear ql qn qb bl dl hq hny hnx hr1 hr2 bf sf bny
  clear h0
  have NA := Lib.hid na
  clear na hx hy
  go_enter Try.func9, Try.ntmps9
  go_wp2_with fail
  refine (near1_any _ x y true _ NA.out (by simp) (by first | simp | simp [go_sem]) (by first | simp | simp [go_sem])).mono ?_
  rintro e w1 ⟨rfl, h1⟩
  have z1 := h1.size
  simp at z1
  have hs : w.heap.size + 1 + 1 ≤ w1.heap.size := by omega
  have c1 : w1.cell? ⟨w.heap.size, 0, none⟩ = some (.int .i64 (x)) := (h1.cell (p := ⟨w.heap.size, 0, none⟩) (by simp; try omega)).trans (by first | simp | simp [go_sem])
  have c2 : w1.cell? ⟨w.heap.size, 1, none⟩ = some (.int .i64 (y)) := (h1.cell (p := ⟨w.heap.size, 1, none⟩) (by simp; try omega)).trans (by first | simp | simp [go_sem])
  have hb0 : Below w.heap.size w w1 := (((Below.refl _ _).alloc (by simp; try omega) _).alloc (by simp; try omega) _).trans (h1.mono (by simp; try omega))
  clear h1 z1
  go_wp2_with fail
  refine (shown_any _).mono ?_
  rintro e w2 ⟨rfl, h2⟩
  obtain ⟨d1, d2, hsz, hb1⟩ := next2 (keep2 ⟨c1, c2, Below.refl _ _⟩ h2 (by dsimp only; omega) (by dsimp only; omega)) (by omega) hb0
  clear c1 c2 hb0 h2
  have c1 := d1
  clear d1
  have c2 := d2
  clear d2
  have hb0 := hb1
  clear hb1
  replace hs := Nat.le_trans hs hsz
  clear hsz
  go_wp2_with fail
  refine (Q0.out _).mono ?_
  rintro e w3 ⟨rfl, h3⟩
  obtain ⟨d1, d2, hsz, hb1⟩ := next2 (keep2 ⟨c1, c2, Below.refl _ _⟩ h3 (by dsimp only; omega) (by dsimp only; omega)) (by omega) hb0
  clear c1 c2 hb0 h3
  have c1 := d1
  clear d1
  have c2 := d2
  clear d2
  have hb0 := hb1
  clear hb1
  replace hs := Nat.le_trans hs hsz
  clear hsz
  go_wp2_with fail
  refine (LF.out _).mono ?_
  rintro e w4 ⟨rfl, h4⟩
  obtain ⟨d1, d2, hsz, hb1⟩ := next2 (keep2 ⟨c1, c2, Below.refl _ _⟩ h4 (by dsimp only; omega) (by dsimp only; omega)) (by omega) hb0
  clear c1 c2 hb0 h4
  have c1 := d1
  clear d1
  have c2 := d2
  clear d2
  have hb0 := hb1
  clear hb1
  replace hs := Nat.le_trans hs hsz
  clear hsz
  go_upto_region 7 with fail
  refine any_gen (fun z => z.cell? ⟨w.heap.size, 0, none⟩ = some (.int .i64 (x)) ∧ z.cell? ⟨w.heap.size, 1, none⟩ = some (.int .i64 (y)) ∧ z.cell? ⟨w4.heap.size, 0, none⟩ = some (.int .i64 (ny)) ∧ z.cell? ⟨w4.heap.size, 1, none⟩ = some (.int .i64 (x)) ∧ w4.heap.size + 1 ≤ z.heap.size ∧ Below w.heap.size w z) ⟨(World.cell?_alloc_old _ _ _ (by dsimp only; omega)).trans c1, (World.cell?_alloc_old _ _ _ (by dsimp only; omega)).trans c2, by simp, by simp, by simp, hb0.alloc (by first | omega | exact hb0.size) _⟩ ?_
  clear c1 c2 hb0
  rintro w5 ⟨c1, c2, c3, c4, hsz, hb0⟩
  have hz5 : w4.heap.size + 1 ≤ w5.heap.size := hsz
  clear hsz
  go_wp2_with fail
  refine (Q1.out _).mono ?_
  rintro e w6 ⟨rfl, h6⟩
  obtain ⟨d1, d2, d3, d4, hsz, hb1⟩ := next4 (keep4 ⟨c1, c2, c3, c4, Below.refl _ _⟩ h6 (by dsimp only; omega) (by dsimp only; omega) (by dsimp only; omega) (by dsimp only; omega)) (by omega) hb0
  clear c1 c2 c3 c4 hb0 h6
  have c1 := d1
  clear d1
  have c2 := d2
  clear d2
  have c3 := d3
  clear d3
  have c4 := d4
  clear d4
  have hb0 := hb1
  clear hb1
  replace hz5 := Nat.le_trans hz5 hsz
  clear hsz
  go_wp2_with fail
  refine (NG.out _).mono ?_
  rintro e w7 ⟨rfl, h7⟩
  obtain ⟨d1, d2, d3, d4, hsz, hb1⟩ := next4 (keep4 ⟨c1, c2, c3, c4, Below.refl _ _⟩ h7 (by dsimp only; omega) (by dsimp only; omega) (by dsimp only; omega) (by dsimp only; omega)) (by omega) hb0
  clear c1 c2 c3 c4 hb0 h7
  have c1 := d1
  clear d1
  have c2 := d2
  clear d2
  have c3 := d3
  clear d3
  have c4 := d4
  clear d4
  have hb0 := hb1
  clear hb1
  replace hz5 := Nat.le_trans hz5 hsz
  clear hsz
  go_wp2_with fail
  refine (Q2.out _).mono ?_
  rintro e w8 ⟨rfl, h8⟩
  obtain ⟨d1, d2, d3, d4, hsz, hb1⟩ := next4 (keep4 ⟨c1, c2, c3, c4, Below.refl _ _⟩ h8 (by dsimp only; omega) (by dsimp only; omega) (by dsimp only; omega) (by dsimp only; omega)) (by omega) hb0
  clear c1 c2 c3 c4 hb0 h8
  have c1 := d1
  clear d1
  have c2 := d2
  clear d2
  have c3 := d3
  clear d3
  have c4 := d4
  clear d4
  have hb0 := hb1
  clear hb1
  replace hz5 := Nat.le_trans hz5 hsz
  clear hsz
  go_wp2_with fail
  refine (BF.out _).mono ?_
  rintro e w9 ⟨rfl, h9⟩
  obtain ⟨d1, d2, d3, d4, hsz, hb1⟩ := next4 (keep4 ⟨c1, c2, c3, c4, Below.refl _ _⟩ h9 (by dsimp only; omega) (by dsimp only; omega) (by dsimp only; omega) (by dsimp only; omega)) (by omega) hb0
  clear c1 c2 c3 c4 hb0 h9
  have c1 := d1
  clear d1
  have c2 := d2
  clear d2
  have c3 := d3
  clear d3
  have c4 := d4
  clear d4
  have hb0 := hb1
  clear hb1
  replace hz5 := Nat.le_trans hz5 hsz
  clear hsz
  go_wp2_with fail
  refine (SH.out _).mono ?_
  rintro e w10 ⟨rfl, h10⟩
  obtain ⟨d1, d2, d3, d4, hsz, hb1⟩ := next4 (keep4 ⟨c1, c2, c3, c4, Below.refl _ _⟩ h10 (by dsimp only; omega) (by dsimp only; omega) (by dsimp only; omega) (by dsimp only; omega)) (by omega) hb0
  clear c1 c2 c3 c4 hb0 h10
  have c1 := d1
  clear d1
  have c2 := d2
  clear d2
  have c3 := d3
  clear d3
  have c4 := d4
  clear d4
  have hb0 := hb1
  clear hb1
  replace hz5 := Nat.le_trans hz5 hsz
  clear hsz
  go_wp2
  go_ret
  exact ⟨by first | rfl | simp, hb0⟩

theorem quartertf_main (x y : Int) (w : World) (na : allNear [(x, y)] = true) (h0 : ¬ (x = 0 ∧ y = 0)) (q1 : (x == 0) = true) (q2 : (y == 0) = false) :
    Calls Try.prog 9 #[P2 x y] w fun e w' => e = .returned (.bool true) ∧ Below w.heap.size w w' := by
  obtain ⟨hx, hy⟩ := near_1 na
  have ql := quarter_left x y h0
  have qn := quarter_neg x y h0
  have qb := quarter_bd x y
  have bl := before_left x y h0
  have dl := dot_left x y
  obtain ⟨q, hq⟩ : ∃ q, quarterV x y = q := ⟨_, rfl⟩
  obtain ⟨ny, hny⟩ : ∃ ny, -y = ny := ⟨_, rfl⟩
  obtain ⟨nx, hnx⟩ : ∃ nx, -x = nx := ⟨_, rfl⟩
  rw [hq] at ql qn qb bl
  rw [hny] at ql bl dl qn
  rw [hnx] at qn
  obtain ⟨r1, hr1⟩ : ∃ r, (q + 1) % 4 = r := ⟨_, rfl⟩
  obtain ⟨r2, hr2⟩ : ∃ r, (q + 2) % 4 = r := ⟨_, rfl⟩
  rw [hr1] at ql
  rw [hr2] at qn
  have bf : beforeV x y ny x = (q != 3) := by rw [bl]; by_cases g : q = 3 <;> simp [g]
  have sf : decide (dotN x y ny x < 0) = false := by rw [dl]; rfl
  have bny : -1073741824 ≤ ny ∧ ny ≤ 1073741824 := by omega
  have e1 : IntKind.i64.wrap (q + 1) = q + 1 := IntWalk.i64_in _ (by omega)
  have e2 : IntKind.i64.wrap (q + 2) = q + 2 := IntWalk.i64_in _ (by omega)
  have e3 : Int.tmod (q + 1) 4 = r1 := by rw [Int.tmod_eq_emod_of_nonneg (by omega)]; exact hr1
  have e4 : Int.tmod (q + 2) 4 = r2 := by rw [Int.tmod_eq_emod_of_nonneg (by omega)]; exact hr2
  have e5 : IntKind.i64.wrap r1 = r1 := IntWalk.i64_in _ (by omega)
  have e6 : IntKind.i64.wrap r2 = r2 := IntWalk.i64_in _ (by omega)
  have g1 : decide (0 ≤ q) = true := by simp; omega
  have g2 : decide (q ≤ 3) = true := by simp; omega
  have Q00 := fun w => quarter_any x y w
  simp only [hq] at Q00
  have Q0 := Lib.hid Q00
  clear Q00
  have LF0 := fun w => r4left_any x y w (by omega) (by omega)
  simp only [hny] at LF0
  have LF := Lib.hid LF0
  clear LF0
  have Q10 := fun w => quarter_any ny x w
  simp only [ql] at Q10
  have Q1 := Lib.hid Q10
  clear Q10
  have NG0 := fun w => r4neg_any x y w (by omega) (by omega)
  simp only [hnx, hny] at NG0
  have NG := Lib.hid NG0
  clear NG0
  have Q20 := fun w => quarter_any nx ny w
  simp only [qn] at Q20
  have Q2 := Lib.hid Q20
  clear Q20
  have BF0 := fun w => before_any x y ny x w hx hy bny hx
  simp only [bf] at BF0
  have BF := Lib.hid BF0
  clear BF0
  have SH0 := fun w => sharp_any x y ny x w hx hy bny hx
  simp only [sf] at SH0
  have SH := Lib.hid SH0
  clear SH0
  clear ql qn qb bl dl hq hny hnx hr1 hr2 bf sf bny
  clear h0
  have NA := Lib.hid na
  clear na hx hy
  go_enter Try.func9, Try.ntmps9
  go_wp2_with fail
  refine (near1_any _ x y true _ NA.out (by simp) (by first | simp | simp [go_sem]) (by first | simp | simp [go_sem])).mono ?_
  rintro e w1 ⟨rfl, h1⟩
  have z1 := h1.size
  simp at z1
  have hs : w.heap.size + 1 + 1 ≤ w1.heap.size := by omega
  have c1 : w1.cell? ⟨w.heap.size, 0, none⟩ = some (.int .i64 (x)) := (h1.cell (p := ⟨w.heap.size, 0, none⟩) (by simp; try omega)).trans (by first | simp | simp [go_sem])
  have c2 : w1.cell? ⟨w.heap.size, 1, none⟩ = some (.int .i64 (y)) := (h1.cell (p := ⟨w.heap.size, 1, none⟩) (by simp; try omega)).trans (by first | simp | simp [go_sem])
  have hb0 : Below w.heap.size w w1 := (((Below.refl _ _).alloc (by simp; try omega) _).alloc (by simp; try omega) _).trans (h1.mono (by simp; try omega))
  clear h1 z1
  go_wp2_with fail
  refine (shown_any _).mono ?_
  rintro e w2 ⟨rfl, h2⟩
  obtain ⟨d1, d2, hsz, hb1⟩ := next2 (keep2 ⟨c1, c2, Below.refl _ _⟩ h2 (by dsimp only; omega) (by dsimp only; omega)) (by omega) hb0
  clear c1 c2 hb0 h2
  have c1 := d1
  clear d1
  have c2 := d2
  clear d2
  have hb0 := hb1
  clear hb1
  replace hs := Nat.le_trans hs hsz
  clear hsz
  go_wp2_with fail
  refine (Q0.out _).mono ?_
  rintro e w3 ⟨rfl, h3⟩
  obtain ⟨d1, d2, hsz, hb1⟩ := next2 (keep2 ⟨c1, c2, Below.refl _ _⟩ h3 (by dsimp only; omega) (by dsimp only; omega)) (by omega) hb0
  clear c1 c2 hb0 h3
  have c1 := d1
  clear d1
  have c2 := d2
  clear d2
  have hb0 := hb1
  clear hb1
  replace hs := Nat.le_trans hs hsz
  clear hsz
  go_wp2_with fail
  refine (LF.out _).mono ?_
  rintro e w4 ⟨rfl, h4⟩
  obtain ⟨d1, d2, hsz, hb1⟩ := next2 (keep2 ⟨c1, c2, Below.refl _ _⟩ h4 (by dsimp only; omega) (by dsimp only; omega)) (by omega) hb0
  clear c1 c2 hb0 h4
  have c1 := d1
  clear d1
  have c2 := d2
  clear d2
  have hb0 := hb1
  clear hb1
  replace hs := Nat.le_trans hs hsz
  clear hsz
  go_upto_region 7 with fail
  refine any_gen (fun z => z.cell? ⟨w.heap.size, 0, none⟩ = some (.int .i64 (x)) ∧ z.cell? ⟨w.heap.size, 1, none⟩ = some (.int .i64 (y)) ∧ z.cell? ⟨w4.heap.size, 0, none⟩ = some (.int .i64 (ny)) ∧ z.cell? ⟨w4.heap.size, 1, none⟩ = some (.int .i64 (x)) ∧ w4.heap.size + 1 ≤ z.heap.size ∧ Below w.heap.size w z) ⟨(World.cell?_alloc_old _ _ _ (by dsimp only; omega)).trans c1, (World.cell?_alloc_old _ _ _ (by dsimp only; omega)).trans c2, by simp, by simp, by simp, hb0.alloc (by first | omega | exact hb0.size) _⟩ ?_
  clear c1 c2 hb0
  rintro w5 ⟨c1, c2, c3, c4, hsz, hb0⟩
  have hz5 : w4.heap.size + 1 ≤ w5.heap.size := hsz
  clear hsz
  go_wp2_with fail
  refine (Q1.out _).mono ?_
  rintro e w6 ⟨rfl, h6⟩
  obtain ⟨d1, d2, d3, d4, hsz, hb1⟩ := next4 (keep4 ⟨c1, c2, c3, c4, Below.refl _ _⟩ h6 (by dsimp only; omega) (by dsimp only; omega) (by dsimp only; omega) (by dsimp only; omega)) (by omega) hb0
  clear c1 c2 c3 c4 hb0 h6
  have c1 := d1
  clear d1
  have c2 := d2
  clear d2
  have c3 := d3
  clear d3
  have c4 := d4
  clear d4
  have hb0 := hb1
  clear hb1
  replace hz5 := Nat.le_trans hz5 hsz
  clear hsz
  go_wp2_with fail
  refine (NG.out _).mono ?_
  rintro e w7 ⟨rfl, h7⟩
  obtain ⟨d1, d2, d3, d4, hsz, hb1⟩ := next4 (keep4 ⟨c1, c2, c3, c4, Below.refl _ _⟩ h7 (by dsimp only; omega) (by dsimp only; omega) (by dsimp only; omega) (by dsimp only; omega)) (by omega) hb0
  clear c1 c2 c3 c4 hb0 h7
  have c1 := d1
  clear d1
  have c2 := d2
  clear d2
  have c3 := d3
  clear d3
  have c4 := d4
  clear d4
  have hb0 := hb1
  clear hb1
  replace hz5 := Nat.le_trans hz5 hsz
  clear hsz
  go_wp2_with fail
  refine (Q2.out _).mono ?_
  rintro e w8 ⟨rfl, h8⟩
  obtain ⟨d1, d2, d3, d4, hsz, hb1⟩ := next4 (keep4 ⟨c1, c2, c3, c4, Below.refl _ _⟩ h8 (by dsimp only; omega) (by dsimp only; omega) (by dsimp only; omega) (by dsimp only; omega)) (by omega) hb0
  clear c1 c2 c3 c4 hb0 h8
  have c1 := d1
  clear d1
  have c2 := d2
  clear d2
  have c3 := d3
  clear d3
  have c4 := d4
  clear d4
  have hb0 := hb1
  clear hb1
  replace hz5 := Nat.le_trans hz5 hsz
  clear hsz
  go_wp2_with fail
  refine (BF.out _).mono ?_
  rintro e w9 ⟨rfl, h9⟩
  obtain ⟨d1, d2, d3, d4, hsz, hb1⟩ := next4 (keep4 ⟨c1, c2, c3, c4, Below.refl _ _⟩ h9 (by dsimp only; omega) (by dsimp only; omega) (by dsimp only; omega) (by dsimp only; omega)) (by omega) hb0
  clear c1 c2 c3 c4 hb0 h9
  have c1 := d1
  clear d1
  have c2 := d2
  clear d2
  have c3 := d3
  clear d3
  have c4 := d4
  clear d4
  have hb0 := hb1
  clear hb1
  replace hz5 := Nat.le_trans hz5 hsz
  clear hsz
  go_wp2_with fail
  refine (SH.out _).mono ?_
  rintro e w10 ⟨rfl, h10⟩
  obtain ⟨d1, d2, d3, d4, hsz, hb1⟩ := next4 (keep4 ⟨c1, c2, c3, c4, Below.refl _ _⟩ h10 (by dsimp only; omega) (by dsimp only; omega) (by dsimp only; omega) (by dsimp only; omega)) (by omega) hb0
  clear c1 c2 c3 c4 hb0 h10
  have c1 := d1
  clear d1
  have c2 := d2
  clear d2
  have c3 := d3
  clear d3
  have c4 := d4
  clear d4
  have hb0 := hb1
  clear hb1
  replace hz5 := Nat.le_trans hz5 hsz
  clear hsz
  go_wp2
  go_ret
  exact ⟨by first | rfl | simp, hb0⟩

theorem walk_SignQuarter (x y : Int) (w : World) :
    Calls Try.prog 9 #[P2 x y] w fun e w' => e = .returned (.bool true) ∧ Below w.heap.size w w' := by
  cases na : allNear [(x, y)] with
  | false => exact quarter_far _ _ w na
  | true =>
    by_cases h0 : x = 0 ∧ y = 0
    · exact quarter0_main _ _ w na h0
    · cases q1 : (x == 0) <;> cases q2 : (y == 0)
      · exact quarterff_main _ _ w na h0 q1 q2
      · exact quarterft_main _ _ w na h0 q1 q2
      · exact quartertf_main _ _ w na h0 q1 q2
      · exact absurd ⟨by simpa using q1, by simpa using q2⟩ h0
end Go.Proofs.Ytfgkndfcddnhlaa
