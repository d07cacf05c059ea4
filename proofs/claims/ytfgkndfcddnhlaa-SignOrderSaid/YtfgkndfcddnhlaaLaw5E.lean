/- The walk of SignOrder. -/
import Derived.Test.YtfgkndfcddnhlaaLaw5S
namespace Go.Proofs.Ytfgkndfcddnhlaa
open Go.RowKit
set_option linter.unusedVariables false
set_option linter.unusedSimpArgs false
set_option maxHeartbeats 4000000
set_option maxRecDepth 100000

theorem ord_far (x y u v c d : Int) (w : World) (na : allNear [(x, y), (u, v), (c, d)] = false) :
    Calls Try.prog 6 #[P2 x y, P2 u v, P2 c d] w fun e w' => e = .returned (.bool true) ∧ Below w.heap.size w w' := by
  have NA := Lib.hid na
  clear na
  go_enter Try.func6, Try.ntmps6
  go_wp2_with fail
  refine (near3_any _ x y u v c d false _ NA.out (by simp) (by first | simp | simp [go_sem]) (by first | simp | simp [go_sem]) (by first | simp | simp [go_sem]) (by first | simp | simp [go_sem]) (by first | simp | simp [go_sem]) (by first | simp | simp [go_sem])).mono ?_
  rintro e w1 ⟨rfl, h1⟩
  have z1 := h1.size
  simp at z1
  have hs : w.heap.size + 1 + 1 + 1 + 1 + 1 ≤ w1.heap.size := by omega
  have c1 : w1.cell? ⟨w.heap.size, 0, none⟩ = some (.int .i64 (x)) := (h1.cell (p := ⟨w.heap.size, 0, none⟩) (by simp; try omega)).trans (by first | simp | simp [go_sem])
  have c2 : w1.cell? ⟨w.heap.size, 1, none⟩ = some (.int .i64 (y)) := (h1.cell (p := ⟨w.heap.size, 1, none⟩) (by simp; try omega)).trans (by first | simp | simp [go_sem])
  have c3 : w1.cell? ⟨w.heap.size + 1, 0, none⟩ = some (.int .i64 (u)) := (h1.cell (p := ⟨w.heap.size + 1, 0, none⟩) (by simp; try omega)).trans (by first | simp | simp [go_sem])
  have c4 : w1.cell? ⟨w.heap.size + 1, 1, none⟩ = some (.int .i64 (v)) := (h1.cell (p := ⟨w.heap.size + 1, 1, none⟩) (by simp; try omega)).trans (by first | simp | simp [go_sem])
  have c5 : w1.cell? ⟨w.heap.size + 1 + 1, 0, none⟩ = some (.int .i64 (c)) := (h1.cell (p := ⟨w.heap.size + 1 + 1, 0, none⟩) (by simp; try omega)).trans (by first | simp | simp [go_sem])
  have c6 : w1.cell? ⟨w.heap.size + 1 + 1, 1, none⟩ = some (.int .i64 (d)) := (h1.cell (p := ⟨w.heap.size + 1 + 1, 1, none⟩) (by simp; try omega)).trans (by first | simp | simp [go_sem])
  have c7 : w1.cell? ⟨w.heap.size + 1 + 1 + 1, 0, none⟩ = some (.int .i64 (0)) := (h1.cell (p := ⟨w.heap.size + 1 + 1 + 1, 0, none⟩) (by simp; try omega)).trans (by first | simp | simp [go_sem])
  have c8 : w1.cell? ⟨w.heap.size + 1 + 1 + 1, 1, none⟩ = some (.int .i64 (0)) := (h1.cell (p := ⟨w.heap.size + 1 + 1 + 1, 1, none⟩) (by simp; try omega)).trans (by first | simp | simp [go_sem])
  have hb0 : Below w.heap.size w w1 := ((((((Below.refl _ _).alloc (by simp; try omega) _).alloc (by simp; try omega) _).alloc (by simp; try omega) _).alloc (by simp; try omega) _).alloc (by simp; try omega) _).trans (h1.mono (by simp; try omega))
  clear h1 z1
  go_wp2_with fail
  refine (shown_any _).mono ?_
  rintro e w2 ⟨rfl, h2⟩
  go_wp2
  go_ret
  exact ⟨rfl, hb0.trans (h2.mono (by omega))⟩

theorem ord_z1 (x y u v c d : Int) (w : World) (na : allNear [(x, y), (u, v), (c, d)] = true) (h1 : x = 0 ∧ y = 0) :
    Calls Try.prog 6 #[P2 x y, P2 u v, P2 c d] w fun e w' => e = .returned (.bool true) ∧ Below w.heap.size w w' := by
  have EQ1 := fun w => eq_pt x y 0 0 true (by rw [h1.1, h1.2]; rfl) w
  clear h1
  have NA := Lib.hid na
  clear na
  go_enter Try.func6, Try.ntmps6
  go_wp2_with fail
  refine (near3_any _ x y u v c d true _ NA.out (by simp) (by first | simp | simp [go_sem]) (by first | simp | simp [go_sem]) (by first | simp | simp [go_sem]) (by first | simp | simp [go_sem]) (by first | simp | simp [go_sem]) (by first | simp | simp [go_sem])).mono ?_
  rintro e w1 ⟨rfl, h1⟩
  have z1 := h1.size
  simp at z1
  have hs : w.heap.size + 1 + 1 + 1 + 1 + 1 ≤ w1.heap.size := by omega
  have c1 : w1.cell? ⟨w.heap.size, 0, none⟩ = some (.int .i64 (x)) := (h1.cell (p := ⟨w.heap.size, 0, none⟩) (by simp; try omega)).trans (by first | simp | simp [go_sem])
  have c2 : w1.cell? ⟨w.heap.size, 1, none⟩ = some (.int .i64 (y)) := (h1.cell (p := ⟨w.heap.size, 1, none⟩) (by simp; try omega)).trans (by first | simp | simp [go_sem])
  have c3 : w1.cell? ⟨w.heap.size + 1, 0, none⟩ = some (.int .i64 (u)) := (h1.cell (p := ⟨w.heap.size + 1, 0, none⟩) (by simp; try omega)).trans (by first | simp | simp [go_sem])
  have c4 : w1.cell? ⟨w.heap.size + 1, 1, none⟩ = some (.int .i64 (v)) := (h1.cell (p := ⟨w.heap.size + 1, 1, none⟩) (by simp; try omega)).trans (by first | simp | simp [go_sem])
  have c5 : w1.cell? ⟨w.heap.size + 1 + 1, 0, none⟩ = some (.int .i64 (c)) := (h1.cell (p := ⟨w.heap.size + 1 + 1, 0, none⟩) (by simp; try omega)).trans (by first | simp | simp [go_sem])
  have c6 : w1.cell? ⟨w.heap.size + 1 + 1, 1, none⟩ = some (.int .i64 (d)) := (h1.cell (p := ⟨w.heap.size + 1 + 1, 1, none⟩) (by simp; try omega)).trans (by first | simp | simp [go_sem])
  have c7 : w1.cell? ⟨w.heap.size + 1 + 1 + 1, 0, none⟩ = some (.int .i64 (0)) := (h1.cell (p := ⟨w.heap.size + 1 + 1 + 1, 0, none⟩) (by simp; try omega)).trans (by first | simp | simp [go_sem])
  have c8 : w1.cell? ⟨w.heap.size + 1 + 1 + 1, 1, none⟩ = some (.int .i64 (0)) := (h1.cell (p := ⟨w.heap.size + 1 + 1 + 1, 1, none⟩) (by simp; try omega)).trans (by first | simp | simp [go_sem])
  have hb0 : Below w.heap.size w w1 := ((((((Below.refl _ _).alloc (by simp; try omega) _).alloc (by simp; try omega) _).alloc (by simp; try omega) _).alloc (by simp; try omega) _).alloc (by simp; try omega) _).trans (h1.mono (by simp; try omega))
  clear h1 z1
  go_wp2_with fail
  refine (shown_any _).mono ?_
  rintro e w2 ⟨rfl, h2⟩
  go_wp2
  go_ret
  exact ⟨rfl, hb0.trans (h2.mono (by omega))⟩

theorem ord_z2 (x y u v c d : Int) (w : World) (na : allNear [(x, y), (u, v), (c, d)] = true) (h1 : ¬ (x = 0 ∧ y = 0)) (h2 : u = 0 ∧ v = 0) :
    Calls Try.prog 6 #[P2 x y, P2 u v, P2 c d] w fun e w' => e = .returned (.bool true) ∧ Below w.heap.size w w' := by
  have EQ1 := fun w => eq_pt x y 0 0 false (nz_eq h1) w
  have EQ2 := fun w => eq_pt u v 0 0 true (by rw [h2.1, h2.2]; rfl) w
  clear h1 h2
  have NA := Lib.hid na
  clear na
  go_enter Try.func6, Try.ntmps6
  go_wp2_with fail
  refine (near3_any _ x y u v c d true _ NA.out (by simp) (by first | simp | simp [go_sem]) (by first | simp | simp [go_sem]) (by first | simp | simp [go_sem]) (by first | simp | simp [go_sem]) (by first | simp | simp [go_sem]) (by first | simp | simp [go_sem])).mono ?_
  rintro e w1 ⟨rfl, h1⟩
  have z1 := h1.size
  simp at z1
  have hs : w.heap.size + 1 + 1 + 1 + 1 + 1 ≤ w1.heap.size := by omega
  have c1 : w1.cell? ⟨w.heap.size, 0, none⟩ = some (.int .i64 (x)) := (h1.cell (p := ⟨w.heap.size, 0, none⟩) (by simp; try omega)).trans (by first | simp | simp [go_sem])
  have c2 : w1.cell? ⟨w.heap.size, 1, none⟩ = some (.int .i64 (y)) := (h1.cell (p := ⟨w.heap.size, 1, none⟩) (by simp; try omega)).trans (by first | simp | simp [go_sem])
  have c3 : w1.cell? ⟨w.heap.size + 1, 0, none⟩ = some (.int .i64 (u)) := (h1.cell (p := ⟨w.heap.size + 1, 0, none⟩) (by simp; try omega)).trans (by first | simp | simp [go_sem])
  have c4 : w1.cell? ⟨w.heap.size + 1, 1, none⟩ = some (.int .i64 (v)) := (h1.cell (p := ⟨w.heap.size + 1, 1, none⟩) (by simp; try omega)).trans (by first | simp | simp [go_sem])
  have c5 : w1.cell? ⟨w.heap.size + 1 + 1, 0, none⟩ = some (.int .i64 (c)) := (h1.cell (p := ⟨w.heap.size + 1 + 1, 0, none⟩) (by simp; try omega)).trans (by first | simp | simp [go_sem])
  have c6 : w1.cell? ⟨w.heap.size + 1 + 1, 1, none⟩ = some (.int .i64 (d)) := (h1.cell (p := ⟨w.heap.size + 1 + 1, 1, none⟩) (by simp; try omega)).trans (by first | simp | simp [go_sem])
  have c7 : w1.cell? ⟨w.heap.size + 1 + 1 + 1, 0, none⟩ = some (.int .i64 (0)) := (h1.cell (p := ⟨w.heap.size + 1 + 1 + 1, 0, none⟩) (by simp; try omega)).trans (by first | simp | simp [go_sem])
  have c8 : w1.cell? ⟨w.heap.size + 1 + 1 + 1, 1, none⟩ = some (.int .i64 (0)) := (h1.cell (p := ⟨w.heap.size + 1 + 1 + 1, 1, none⟩) (by simp; try omega)).trans (by first | simp | simp [go_sem])
  have hb0 : Below w.heap.size w w1 := ((((((Below.refl _ _).alloc (by simp; try omega) _).alloc (by simp; try omega) _).alloc (by simp; try omega) _).alloc (by simp; try omega) _).alloc (by simp; try omega) _).trans (h1.mono (by simp; try omega))
  clear h1 z1
  go_wp2_with fail
  refine (shown_any _).mono ?_
  rintro e w2 ⟨rfl, h2⟩
  go_wp2
  go_ret
  exact ⟨rfl, hb0.trans (h2.mono (by omega))⟩

theorem ord_z3 (x y u v c d : Int) (w : World) (na : allNear [(x, y), (u, v), (c, d)] = true) (h1 : ¬ (x = 0 ∧ y = 0)) (h2 : ¬ (u = 0 ∧ v = 0)) (h3 : c = 0 ∧ d = 0) :
    Calls Try.prog 6 #[P2 x y, P2 u v, P2 c d] w fun e w' => e = .returned (.bool true) ∧ Below w.heap.size w w' := by
  have EQ1 := fun w => eq_pt x y 0 0 false (nz_eq h1) w
  have EQ2 := fun w => eq_pt u v 0 0 false (nz_eq h2) w
  have EQ3 := fun w => eq_pt c d 0 0 true (by rw [h3.1, h3.2]; rfl) w
  clear h1 h2 h3
  have NA := Lib.hid na
  clear na
  go_enter Try.func6, Try.ntmps6
  go_wp2_with fail
  refine (near3_any _ x y u v c d true _ NA.out (by simp) (by first | simp | simp [go_sem]) (by first | simp | simp [go_sem]) (by first | simp | simp [go_sem]) (by first | simp | simp [go_sem]) (by first | simp | simp [go_sem]) (by first | simp | simp [go_sem])).mono ?_
  rintro e w1 ⟨rfl, h1⟩
  have z1 := h1.size
  simp at z1
  have hs : w.heap.size + 1 + 1 + 1 + 1 + 1 ≤ w1.heap.size := by omega
  have c1 : w1.cell? ⟨w.heap.size, 0, none⟩ = some (.int .i64 (x)) := (h1.cell (p := ⟨w.heap.size, 0, none⟩) (by simp; try omega)).trans (by first | simp | simp [go_sem])
  have c2 : w1.cell? ⟨w.heap.size, 1, none⟩ = some (.int .i64 (y)) := (h1.cell (p := ⟨w.heap.size, 1, none⟩) (by simp; try omega)).trans (by first | simp | simp [go_sem])
  have c3 : w1.cell? ⟨w.heap.size + 1, 0, none⟩ = some (.int .i64 (u)) := (h1.cell (p := ⟨w.heap.size + 1, 0, none⟩) (by simp; try omega)).trans (by first | simp | simp [go_sem])
  have c4 : w1.cell? ⟨w.heap.size + 1, 1, none⟩ = some (.int .i64 (v)) := (h1.cell (p := ⟨w.heap.size + 1, 1, none⟩) (by simp; try omega)).trans (by first | simp | simp [go_sem])
  have c5 : w1.cell? ⟨w.heap.size + 1 + 1, 0, none⟩ = some (.int .i64 (c)) := (h1.cell (p := ⟨w.heap.size + 1 + 1, 0, none⟩) (by simp; try omega)).trans (by first | simp | simp [go_sem])
  have c6 : w1.cell? ⟨w.heap.size + 1 + 1, 1, none⟩ = some (.int .i64 (d)) := (h1.cell (p := ⟨w.heap.size + 1 + 1, 1, none⟩) (by simp; try omega)).trans (by first | simp | simp [go_sem])
  have c7 : w1.cell? ⟨w.heap.size + 1 + 1 + 1, 0, none⟩ = some (.int .i64 (0)) := (h1.cell (p := ⟨w.heap.size + 1 + 1 + 1, 0, none⟩) (by simp; try omega)).trans (by first | simp | simp [go_sem])
  have c8 : w1.cell? ⟨w.heap.size + 1 + 1 + 1, 1, none⟩ = some (.int .i64 (0)) := (h1.cell (p := ⟨w.heap.size + 1 + 1 + 1, 1, none⟩) (by simp; try omega)).trans (by first | simp | simp [go_sem])
  have hb0 : Below w.heap.size w w1 := ((((((Below.refl _ _).alloc (by simp; try omega) _).alloc (by simp; try omega) _).alloc (by simp; try omega) _).alloc (by simp; try omega) _).alloc (by simp; try omega) _).trans (h1.mono (by simp; try omega))
  clear h1 z1
  go_wp2_with fail
  refine (shown_any _).mono ?_
  rintro e w2 ⟨rfl, h2⟩
  go_wp2
  go_ret
  exact ⟨rfl, hb0.trans (h2.mono (by omega))⟩

theorem ord_s (x y u v c d : Int) (w : World) (na : allNear [(x, y), (u, v), (c, d)] = true) (h1 : ¬ (x = 0 ∧ y = 0)) (h2 : ¬ (u = 0 ∧ v = 0)) (h3 : ¬ (c = 0 ∧ d = 0)) (hc : (x * v - y * u == 0) = true) (hd : decide (0 < x * u + y * v) = true) :
    Calls Try.prog 6 #[P2 x y, P2 u v, P2 c d] w fun e w' => e = .returned (.bool true) ∧ Below w.heap.size w w' := by
  obtain ⟨gx, gy, gu, gv, gc, gd⟩ := near_3 na
  have EQ1 := fun w => eq_pt x y 0 0 false (nz_eq h1) w
  have EQ2 := fun w => eq_pt u v 0 0 false (nz_eq h2) w
  have EQ3 := fun w => eq_pt c d 0 0 false (nz_eq h3) w
  have i0 := before_irr x y
  obtain ⟨s1, s2⟩ := before_same h1 h2 (show crossN x y u v = 0 by unfold crossN; simpa using hc) (show 0 < dotN x y u v by unfold dotN; simpa using hd)
  obtain ⟨D, hD⟩ : ∃ D, x * v - y * u = D := ⟨_, rfl⟩
  obtain ⟨E, hE⟩ : ∃ E, x * u + y * v = E := ⟨_, rfl⟩
  rw [hD] at hc
  rw [hE] at hd
  have CR0 := fun w => r4cross_any x y u v w gx gy gu gv
  simp only [hD] at CR0
  have CR := Lib.hid CR0
  clear CR0
  have DT0 := fun w => r4dot_any x y u v w gx gy gu gv
  simp only [hE] at DT0
  have DT := Lib.hid DT0
  clear DT0
  have B00 := fun w => before_any x y x y w gx gy gx gy
  simp only [i0] at B00
  have B0 := Lib.hid B00
  clear B00
  have B10 := fun w => before_any x y u v w gx gy gu gv
  simp only [s1] at B10
  have B1 := Lib.hid B10
  clear B10
  have B20 := fun w => before_any u v x y w gu gv gx gy
  simp only [s2] at B20
  have B2 := Lib.hid B20
  clear B20
  have NA := Lib.hid na
  clear na gx gy gu gv gc gd h1 h2 h3 i0 s1 s2 hD hE
  go_enter Try.func6, Try.ntmps6
  go_wp2_with fail
  refine (near3_any _ x y u v c d true _ NA.out (by simp) (by first | simp | simp [go_sem]) (by first | simp | simp [go_sem]) (by first | simp | simp [go_sem]) (by first | simp | simp [go_sem]) (by first | simp | simp [go_sem]) (by first | simp | simp [go_sem])).mono ?_
  rintro e w1 ⟨rfl, h1⟩
  have z1 := h1.size
  simp at z1
  have hs : w.heap.size + 1 + 1 + 1 + 1 + 1 ≤ w1.heap.size := by omega
  have c1 : w1.cell? ⟨w.heap.size, 0, none⟩ = some (.int .i64 (x)) := (h1.cell (p := ⟨w.heap.size, 0, none⟩) (by simp; try omega)).trans (by first | simp | simp [go_sem])
  have c2 : w1.cell? ⟨w.heap.size, 1, none⟩ = some (.int .i64 (y)) := (h1.cell (p := ⟨w.heap.size, 1, none⟩) (by simp; try omega)).trans (by first | simp | simp [go_sem])
  have c3 : w1.cell? ⟨w.heap.size + 1, 0, none⟩ = some (.int .i64 (u)) := (h1.cell (p := ⟨w.heap.size + 1, 0, none⟩) (by simp; try omega)).trans (by first | simp | simp [go_sem])
  have c4 : w1.cell? ⟨w.heap.size + 1, 1, none⟩ = some (.int .i64 (v)) := (h1.cell (p := ⟨w.heap.size + 1, 1, none⟩) (by simp; try omega)).trans (by first | simp | simp [go_sem])
  have c5 : w1.cell? ⟨w.heap.size + 1 + 1, 0, none⟩ = some (.int .i64 (c)) := (h1.cell (p := ⟨w.heap.size + 1 + 1, 0, none⟩) (by simp; try omega)).trans (by first | simp | simp [go_sem])
  have c6 : w1.cell? ⟨w.heap.size + 1 + 1, 1, none⟩ = some (.int .i64 (d)) := (h1.cell (p := ⟨w.heap.size + 1 + 1, 1, none⟩) (by simp; try omega)).trans (by first | simp | simp [go_sem])
  have c7 : w1.cell? ⟨w.heap.size + 1 + 1 + 1, 0, none⟩ = some (.int .i64 (0)) := (h1.cell (p := ⟨w.heap.size + 1 + 1 + 1, 0, none⟩) (by simp; try omega)).trans (by first | simp | simp [go_sem])
  have c8 : w1.cell? ⟨w.heap.size + 1 + 1 + 1, 1, none⟩ = some (.int .i64 (0)) := (h1.cell (p := ⟨w.heap.size + 1 + 1 + 1, 1, none⟩) (by simp; try omega)).trans (by first | simp | simp [go_sem])
  have hb0 : Below w.heap.size w w1 := ((((((Below.refl _ _).alloc (by simp; try omega) _).alloc (by simp; try omega) _).alloc (by simp; try omega) _).alloc (by simp; try omega) _).alloc (by simp; try omega) _).trans (h1.mono (by simp; try omega))
  clear h1 z1
  go_wp2_with fail
  refine (shown_any _).mono ?_
  rintro e w2 ⟨rfl, h2⟩
  obtain ⟨d1, d2, d3, d4, d5, d6, d7, d8, hsz, hb1⟩ := next8 (keep8 ⟨c1, c2, c3, c4, c5, c6, c7, c8, Below.refl _ _⟩ h2 (by dsimp only; omega) (by dsimp only; omega) (by dsimp only; omega) (by dsimp only; omega) (by dsimp only; omega) (by dsimp only; omega) (by dsimp only; omega) (by dsimp only; omega)) (by omega) hb0
  clear c1 c2 c3 c4 c5 c6 c7 c8 hb0 h2
  have c1 := d1
  clear d1
  have c2 := d2
  clear d2
  have c3 := d3
  clear d3
  have c4 := d4
  clear d4
  have c5 := d5
  clear d5
  have c6 := d6
  clear d6
  have c7 := d7
  clear d7
  have c8 := d8
  clear d8
  have hb0 := hb1
  clear hb1
  replace hs := Nat.le_trans hs hsz
  clear hsz
  go_wp2_with fail
  refine (CR.out _).mono ?_
  rintro e w3 ⟨rfl, h3⟩
  obtain ⟨d1, d2, d3, d4, d5, d6, d7, d8, hsz, hb1⟩ := next8 (keep8 ⟨c1, c2, c3, c4, c5, c6, c7, c8, Below.refl _ _⟩ h3 (by dsimp only; omega) (by dsimp only; omega) (by dsimp only; omega) (by dsimp only; omega) (by dsimp only; omega) (by dsimp only; omega) (by dsimp only; omega) (by dsimp only; omega)) (by omega) hb0
  clear c1 c2 c3 c4 c5 c6 c7 c8 hb0 h3
  have c1 := d1
  clear d1
  have c2 := d2
  clear d2
  have c3 := d3
  clear d3
  have c4 := d4
  clear d4
  have c5 := d5
  clear d5
  have c6 := d6
  clear d6
  have c7 := d7
  clear d7
  have c8 := d8
  clear d8
  have hb0 := hb1
  clear hb1
  replace hs := Nat.le_trans hs hsz
  clear hsz
  go_wp2_with fail
  refine (DT.out _).mono ?_
  rintro e w4 ⟨rfl, h4⟩
  obtain ⟨d1, d2, d3, d4, d5, d6, d7, d8, hsz, hb1⟩ := next8 (keep8 ⟨c1, c2, c3, c4, c5, c6, c7, c8, Below.refl _ _⟩ h4 (by dsimp only; omega) (by dsimp only; omega) (by dsimp only; omega) (by dsimp only; omega) (by dsimp only; omega) (by dsimp only; omega) (by dsimp only; omega) (by dsimp only; omega)) (by omega) hb0
  clear c1 c2 c3 c4 c5 c6 c7 c8 hb0 h4
  have c1 := d1
  clear d1
  have c2 := d2
  clear d2
  have c3 := d3
  clear d3
  have c4 := d4
  clear d4
  have c5 := d5
  clear d5
  have c6 := d6
  clear d6
  have c7 := d7
  clear d7
  have c8 := d8
  clear d8
  have hb0 := hb1
  clear hb1
  replace hs := Nat.le_trans hs hsz
  clear hsz
  go_wp2_with fail
  refine wp_region_held_drew (S := fun w' => w'.cell? ⟨w.heap.size, 0, none⟩ = some (.int .i64 (x)) ∧ w'.cell? ⟨w.heap.size, 1, none⟩ = some (.int .i64 (y)) ∧ w'.cell? ⟨w.heap.size + 1, 0, none⟩ = some (.int .i64 (u)) ∧ w'.cell? ⟨w.heap.size + 1, 1, none⟩ = some (.int .i64 (v)) ∧ w'.cell? ⟨w.heap.size + 1 + 1, 0, none⟩ = some (.int .i64 (c)) ∧ w'.cell? ⟨w.heap.size + 1 + 1, 1, none⟩ = some (.int .i64 (d)) ∧ w'.cell? ⟨w.heap.size + 1 + 1 + 1, 0, none⟩ = some (.int .i64 (0)) ∧ w'.cell? ⟨w.heap.size + 1 + 1 + 1, 1, none⟩ = some (.int .i64 (0)) ∧ Below w4.heap.size w4 w') (by kernel_rfl) ⟨by simp [*], by simp [*], by simp [*], by simp [*], by simp [*], by simp [*], by simp [*], by simp [*], (Below.refl _ _).drew⟩ (fun hHeld => ?_)
  refine wpAnyH_take (i := 0) (oi := ⟨some 46, _, _, _, _, _⟩) (v := ?_) rfl (by kernel_rfl) (by kernel_rfl) (by kernel_rfl) (fun _ _ _ h => h) (Or.inl ⟨by rfl, ?_⟩) (by assumption) ?_
  rotate_left
  · (intro w hSw; (try dsimp only at hSw); go_simp; (try with_reducible rfl))
  try simp only [Act.put, List.setIfInBounds_toArray, List.set_cons_zero, List.set_cons_succ]
  refine wpAnyH_take (i := 1) (oi := ⟨some 47, _, _, _, _, _⟩) (v := ?_) rfl (by kernel_rfl) (by kernel_rfl) (by kernel_rfl) (fun _ _ _ h => h) (Or.inl ⟨by rfl, ?_⟩) (by assumption) ?_
  rotate_left
  · (intro w hSw; (try dsimp only at hSw); go_simp; (try with_reducible rfl))
  try simp only [Act.put, List.setIfInBounds_toArray, List.set_cons_zero, List.set_cons_succ]
  refine wpAnyH_ready (rs := [2]) (by kernel_rfl) (by simp) ?_
  refine AllReadyH.cons (o := ⟨some 48, _, _, _, _, _⟩) rfl (fun K hK => ?_) AllReadyH.nil
  go_simp
  first | (go_at_call 24; with_reducible refine (B0.out _).mono ?_; rintro e w' ⟨rfl, hb⟩) | (go_at_call 24; with_reducible refine (B1.out _).mono ?_; rintro e w' ⟨rfl, hb⟩) | (go_at_call 24; with_reducible refine (B2.out _).mono ?_; rintro e w' ⟨rfl, hb⟩)
  try go_wp2_with fail
  refine hK.out _ _ ?_ (fun hHeld => ?_)
  · exact keep8 ‹_› hb (by dsimp only; omega) (by dsimp only; omega) (by dsimp only; omega) (by dsimp only; omega) (by dsimp only; omega) (by dsimp only; omega) (by dsimp only; omega) (by dsimp only; omega)
  clear hK K
  try simp only [Act.put, List.setIfInBounds_toArray, List.set_cons_zero, List.set_cons_succ]
  refine wpAnyH_take (i := 3) (oi := ⟨some 49, _, _, _, _, _⟩) (v := ?_) rfl (by kernel_rfl) (by kernel_rfl) (by kernel_rfl) (fun _ _ _ h => h) (Or.inl ⟨by rfl, ?_⟩) (by assumption) ?_
  rotate_left
  · (intro w hSw; (try dsimp only at hSw); go_simp; (try with_reducible rfl))
  try simp only [Act.put, List.setIfInBounds_toArray, List.set_cons_zero, List.set_cons_succ]
  refine wpAnyH_take (i := 4) (oi := ⟨some 50, _, _, _, _, _⟩) (v := ?_) rfl (by kernel_rfl) (by kernel_rfl) (by kernel_rfl) (fun _ _ _ h => h) (Or.inl ⟨by rfl, ?_⟩) (by assumption) ?_
  rotate_left
  · (intro w hSw; (try dsimp only at hSw); go_simp; (try with_reducible rfl))
  try simp only [Act.put, List.setIfInBounds_toArray, List.set_cons_zero, List.set_cons_succ]
  refine wpAnyH_take (i := 5) (oi := ⟨some 51, _, _, _, _, _⟩) (v := ?_) rfl (by kernel_rfl) (by kernel_rfl) (by kernel_rfl) (fun _ _ _ h => h) (Or.inl ⟨by rfl, ?_⟩) (by assumption) ?_
  rotate_left
  · (intro w hSw; (try dsimp only at hSw); go_simp; (try with_reducible rfl))
  try simp only [Act.put, List.setIfInBounds_toArray, List.set_cons_zero, List.set_cons_succ]
  refine wpAnyH_take (i := 6) (oi := ⟨some 52, _, _, _, _, _⟩) (v := ?_) rfl (by kernel_rfl) (by kernel_rfl) (by kernel_rfl) (fun _ _ _ h => h) (Or.inl ⟨by rfl, ?_⟩) (by assumption) ?_
  rotate_left
  · (intro w hSw; (try dsimp only at hSw); go_simp; (try with_reducible rfl))
  try simp only [Act.put, List.setIfInBounds_toArray, List.set_cons_zero, List.set_cons_succ]
  refine wpAnyH_take (i := 7) (oi := ⟨some 53, _, _, _, _, _⟩) (v := ?_) rfl (by kernel_rfl) (by kernel_rfl) (by kernel_rfl) (fun _ _ _ h => h) (Or.inl ⟨by rfl, ?_⟩) (by assumption) ?_
  rotate_left
  · (intro w hSw; (try dsimp only at hSw); go_simp; (try with_reducible rfl))
  try simp only [Act.put, List.setIfInBounds_toArray, List.set_cons_zero, List.set_cons_succ]
  refine wpAnyH_ready (rs := [8]) (by kernel_rfl) (by simp) ?_
  refine AllReadyH.cons (o := ⟨some 54, _, _, _, _, _⟩) rfl (fun K hK => ?_) AllReadyH.nil
  go_simp
  first | (go_at_call 24; with_reducible refine (B0.out _).mono ?_; rintro e w' ⟨rfl, hb⟩) | (go_at_call 24; with_reducible refine (B1.out _).mono ?_; rintro e w' ⟨rfl, hb⟩) | (go_at_call 24; with_reducible refine (B2.out _).mono ?_; rintro e w' ⟨rfl, hb⟩)
  try go_wp2_with fail
  refine hK.out _ _ ?_ (fun hHeld => ?_)
  · exact keep8 ‹_› hb (by dsimp only; omega) (by dsimp only; omega) (by dsimp only; omega) (by dsimp only; omega) (by dsimp only; omega) (by dsimp only; omega) (by dsimp only; omega) (by dsimp only; omega)
  clear hK K
  try simp only [Act.put, List.setIfInBounds_toArray, List.set_cons_zero, List.set_cons_succ]
  refine wpAnyH_take (i := 9) (oi := ⟨some 55, _, _, _, _, _⟩) (v := ?_) rfl (by kernel_rfl) (by kernel_rfl) (by kernel_rfl) (fun _ _ _ h => h) (Or.inl ⟨by rfl, ?_⟩) (by assumption) ?_
  rotate_left
  · (intro w hSw; (try dsimp only at hSw); go_simp; (try with_reducible rfl))
  try simp only [Act.put, List.setIfInBounds_toArray, List.set_cons_zero, List.set_cons_succ]
  refine wpAnyH_take (i := 10) (oi := ⟨some 56, _, _, _, _, _⟩) (v := ?_) rfl (by kernel_rfl) (by kernel_rfl) (by kernel_rfl) (fun _ _ _ h => h) (Or.inl ⟨by rfl, ?_⟩) (by assumption) ?_
  rotate_left
  · (intro w hSw; (try dsimp only at hSw); go_simp; (try with_reducible rfl))
  try simp only [Act.put, List.setIfInBounds_toArray, List.set_cons_zero, List.set_cons_succ]
  refine wpAnyH_take (i := 11) (oi := ⟨some 57, _, _, _, _, _⟩) (v := ?_) rfl (by kernel_rfl) (by kernel_rfl) (by kernel_rfl) (fun _ _ _ h => h) (Or.inl ⟨by rfl, ?_⟩) (by assumption) ?_
  rotate_left
  · (intro w hSw; (try dsimp only at hSw); go_simp; (try with_reducible rfl))
  try simp only [Act.put, List.setIfInBounds_toArray, List.set_cons_zero, List.set_cons_succ]
  refine wpAnyH_ready (rs := [12]) (by kernel_rfl) (by simp) ?_
  refine AllReadyH.cons (o := ⟨some 58, _, _, _, _, _⟩) rfl (fun K hK => ?_) AllReadyH.nil
  go_simp
  first | (go_at_call 24; with_reducible refine (B0.out _).mono ?_; rintro e w' ⟨rfl, hb⟩) | (go_at_call 24; with_reducible refine (B1.out _).mono ?_; rintro e w' ⟨rfl, hb⟩) | (go_at_call 24; with_reducible refine (B2.out _).mono ?_; rintro e w' ⟨rfl, hb⟩)
  try go_wp2_with fail
  refine hK.out _ _ ?_ (fun hHeld => ?_)
  · exact keep8 ‹_› hb (by dsimp only; omega) (by dsimp only; omega) (by dsimp only; omega) (by dsimp only; omega) (by dsimp only; omega) (by dsimp only; omega) (by dsimp only; omega) (by dsimp only; omega)
  clear hK K
  try simp only [Act.put, List.setIfInBounds_toArray, List.set_cons_zero, List.set_cons_succ]
  refine wpAnyH_take (i := 13) (oi := ⟨some 59, _, _, _, _, _⟩) (v := ?_) rfl (by kernel_rfl) (by kernel_rfl) (by kernel_rfl) (fun _ _ _ h => h) (Or.inl ⟨by rfl, ?_⟩) (by assumption) ?_
  rotate_left
  · (intro w hSw; (try dsimp only at hSw); go_simp; (try with_reducible rfl))
  try simp only [Act.put, List.setIfInBounds_toArray, List.set_cons_zero, List.set_cons_succ]
  refine wpAnyH_take (i := 14) (oi := ⟨some 60, _, _, _, _, _⟩) (v := ?_) rfl (by kernel_rfl) (by kernel_rfl) (by kernel_rfl) (fun _ _ _ h => h) (Or.inl ⟨by rfl, ?_⟩) (by assumption) ?_
  rotate_left
  · (intro w hSw; (try dsimp only at hSw); go_simp; (try with_reducible rfl))
  try simp only [Act.put, List.setIfInBounds_toArray, List.set_cons_zero, List.set_cons_succ]
  refine wpAnyH_take (i := 15) (oi := ⟨some 61, _, _, _, _, _⟩) (v := ?_) rfl (by kernel_rfl) (by kernel_rfl) (by kernel_rfl) (fun _ _ _ h => h) (Or.inl ⟨by rfl, ?_⟩) (by assumption) ?_
  rotate_left
  · (intro w hSw; (try dsimp only at hSw); go_simp; (try with_reducible rfl))
  try simp only [Act.put, List.setIfInBounds_toArray, List.set_cons_zero, List.set_cons_succ]
  refine wpAnyH_take (i := 16) (oi := ⟨some 62, _, _, _, _, _⟩) (v := ?_) rfl (by kernel_rfl) (by kernel_rfl) (by kernel_rfl) (fun _ _ _ h => h) (Or.inl ⟨by rfl, ?_⟩) (by assumption) ?_
  rotate_left
  · (intro w hSw; (try dsimp only at hSw); go_simp; (try with_reducible rfl))
  try simp only [Act.put, List.setIfInBounds_toArray, List.set_cons_zero, List.set_cons_succ]
  refine wpAnyH_take (i := 17) (oi := ⟨some 63, _, _, _, _, _⟩) (v := ?_) rfl (by kernel_rfl) (by kernel_rfl) (by kernel_rfl) (fun _ _ _ h => h) (Or.inl ⟨by rfl, ?_⟩) (by assumption) ?_
  rotate_left
  · (intro w hSw; (try dsimp only at hSw); go_simp; (try with_reducible rfl))
  try simp only [Act.put, List.setIfInBounds_toArray, List.set_cons_zero, List.set_cons_succ]
  refine wpAnyH_take (i := 18) (oi := ⟨some 64, _, _, _, _, _⟩) (v := ?_) rfl (by kernel_rfl) (by kernel_rfl) (by kernel_rfl) (fun _ _ _ h => h) (Or.inl ⟨by rfl, ?_⟩) (by assumption) ?_
  rotate_left
  · (intro w hSw; (try dsimp only at hSw); go_simp; (try with_reducible rfl))
  try simp only [Act.put, List.setIfInBounds_toArray, List.set_cons_zero, List.set_cons_succ]
  refine wpAnyH_take (i := 19) (oi := ⟨some 65, _, _, _, _, _⟩) (v := ?_) rfl (by kernel_rfl) (by kernel_rfl) (by kernel_rfl) (fun _ _ _ h => h) (Or.inl ⟨by rfl, ?_⟩) (by assumption) ?_
  rotate_left
  · (intro w hSw; (try dsimp only at hSw); go_simp; (try with_reducible rfl))
  try simp only [Act.put, List.setIfInBounds_toArray, List.set_cons_zero, List.set_cons_succ]
  refine wpAnyH_take (i := 20) (oi := ⟨some 66, _, _, _, _, _⟩) (v := undef) rfl (by kernel_rfl) (by kernel_rfl) (by kernel_rfl) (fun _ _ _ h => h) (Or.inr ⟨by rfl, rfl⟩) (by assumption) ?_
  try simp only [Act.put, List.setIfInBounds_toArray, List.set_cons_zero, List.set_cons_succ]
  refine wpAnyH_take (i := 21) (oi := ⟨some 67, _, _, _, _, _⟩) (v := undef) rfl (by kernel_rfl) (by kernel_rfl) (by kernel_rfl) (fun _ _ _ h => h) (Or.inr ⟨by rfl, rfl⟩) (by assumption) ?_
  try simp only [Act.put, List.setIfInBounds_toArray, List.set_cons_zero, List.set_cons_succ]
  refine wpAnyH_take (i := 23) (oi := ⟨some 69, _, _, _, _, _⟩) (v := undef) rfl (by kernel_rfl) (by kernel_rfl) (by kernel_rfl) (fun _ _ _ h => h) (Or.inr ⟨by rfl, rfl⟩) (by assumption) ?_
  try simp only [Act.put, List.setIfInBounds_toArray, List.set_cons_zero, List.set_cons_succ]
  refine wpAnyH_take (i := 24) (oi := ⟨some 70, _, _, _, _, _⟩) (v := undef) rfl (by kernel_rfl) (by kernel_rfl) (by kernel_rfl) (fun _ _ _ h => h) (Or.inr ⟨by rfl, rfl⟩) (by assumption) ?_
  try simp only [Act.put, List.setIfInBounds_toArray, List.set_cons_zero, List.set_cons_succ]
  refine wpAnyH_ready (rs := [22]) (by kernel_rfl) (by simp) ?_
  refine AllReadyH.cons (o := ⟨some 68, _, _, _, _, _⟩) rfl (fun K hK => ?_) AllReadyH.nil
  go_simp
  refine hK.out _ _ ?_ (fun hHeld => ?_)
  · assumption
  clear hK K
  try simp only [Act.put, List.setIfInBounds_toArray, List.set_cons_zero, List.set_cons_succ]
  refine wpAnyH_ready (rs := [25]) (by kernel_rfl) (by simp) ?_
  refine AllReadyH.cons (o := ⟨some 71, _, _, _, _, _⟩) rfl (fun K hK => ?_) AllReadyH.nil
  go_simp
  refine hK.out _ _ ?_ (fun hHeld => ?_)
  · assumption
  clear hK K
  try simp only [Act.put, List.setIfInBounds_toArray, List.set_cons_zero, List.set_cons_succ]
  refine wpAnyH_take (i := 26) (oi := ⟨some 72, _, _, _, _, _⟩) (v := undef) rfl (by kernel_rfl) (by kernel_rfl) (by kernel_rfl) (fun _ _ _ h => h) (Or.inr ⟨by rfl, rfl⟩) (by assumption) ?_
  try simp only [Act.put, List.setIfInBounds_toArray, List.set_cons_zero, List.set_cons_succ]
  refine wpAnyH_take (i := 27) (oi := ⟨some 73, _, _, _, _, _⟩) (v := ?_) rfl (by kernel_rfl) (by kernel_rfl) (by kernel_rfl) (fun _ _ _ h => h) (Or.inl ⟨by rfl, ?_⟩) (by assumption) ?_
  rotate_left
  · (intro w hSw; (try dsimp only at hSw); go_simp; (try with_reducible rfl))
  try simp only [Act.put, List.setIfInBounds_toArray, List.set_cons_zero, List.set_cons_succ]
  refine wpAnyH_take (i := 28) (oi := ⟨some 74, _, _, _, _, _⟩) (v := ?_) rfl (by kernel_rfl) (by kernel_rfl) (by kernel_rfl) (fun _ _ _ h => h) (Or.inl ⟨by rfl, ?_⟩) (by assumption) ?_
  rotate_left
  · (intro w hSw; (try dsimp only at hSw); go_simp; (try with_reducible rfl))
  try simp only [Act.put, List.setIfInBounds_toArray, List.set_cons_zero, List.set_cons_succ]
  refine wpAnyH_done (by kernel_rfl) ?_ _
  refine any_gen (fun z => z.cell? ⟨w.heap.size, 0, none⟩ = some (.int .i64 (x)) ∧ z.cell? ⟨w.heap.size, 1, none⟩ = some (.int .i64 (y)) ∧ z.cell? ⟨w.heap.size + 1, 0, none⟩ = some (.int .i64 (u)) ∧ z.cell? ⟨w.heap.size + 1, 1, none⟩ = some (.int .i64 (v)) ∧ z.cell? ⟨w.heap.size + 1 + 1, 0, none⟩ = some (.int .i64 (c)) ∧ z.cell? ⟨w.heap.size + 1 + 1, 1, none⟩ = some (.int .i64 (d)) ∧ z.cell? ⟨w.heap.size + 1 + 1 + 1, 0, none⟩ = some (.int .i64 (0)) ∧ z.cell? ⟨w.heap.size + 1 + 1 + 1, 1, none⟩ = some (.int .i64 (0)) ∧ w4.heap.size ≤ z.heap.size ∧ Below w.heap.size w z) (next8 ‹_ ∧ _› (by omega) hb0) ?_
  clear c1 c2 c3 c4 c5 c6 c7 c8 hb0
  rintro w5 ⟨c1, c2, c3, c4, c5, c6, c7, c8, hsz, hb0⟩
  replace hs := Nat.le_trans hs hsz
  clear hsz
  go_wp2_with fail
  refine (B1.out _).mono ?_
  rintro e w6 ⟨rfl, h6⟩
  obtain ⟨d1, d2, d3, d4, d5, d6, d7, d8, hsz, hb1⟩ := next8 (keep8 ⟨c1, c2, c3, c4, c5, c6, c7, c8, Below.refl _ _⟩ h6 (by dsimp only; omega) (by dsimp only; omega) (by dsimp only; omega) (by dsimp only; omega) (by dsimp only; omega) (by dsimp only; omega) (by dsimp only; omega) (by dsimp only; omega)) (by omega) hb0
  clear c1 c2 c3 c4 c5 c6 c7 c8 hb0 h6
  have c1 := d1
  clear d1
  have c2 := d2
  clear d2
  have c3 := d3
  clear d3
  have c4 := d4
  clear d4
  have c5 := d5
  clear d5
  have c6 := d6
  clear d6
  have c7 := d7
  clear d7
  have c8 := d8
  clear d8
  have hb0 := hb1
  clear hb1
  replace hs := Nat.le_trans hs hsz
  clear hsz
  go_wp2
  go_ret
  exact ⟨by first | rfl | simp, hb0⟩

theorem ord_n000 (x y u v c d : Int) (w : World) (na : allNear [(x, y), (u, v), (c, d)] = true) (h1 : ¬ (x = 0 ∧ y = 0)) (h2 : ¬ (u = 0 ∧ v = 0)) (h3 : ¬ (c = 0 ∧ d = 0)) (hc : (x * v - y * u == 0) = false) (hb1 : beforeV x y u v = false) :
    Calls Try.prog 6 #[P2 x y, P2 u v, P2 c d] w fun e w' => e = .returned (.bool true) ∧ Below w.heap.size w w' := by
  obtain ⟨gx, gy, gu, gv, gc, gd⟩ := near_3 na
  have EQ1 := fun w => eq_pt x y 0 0 false (nz_eq h1) w
  have EQ2 := fun w => eq_pt u v 0 0 false (nz_eq h2) w
  have EQ3 := fun w => eq_pt c d 0 0 false (nz_eq h3) w
  have i0 := before_irr x y
  have s1 := hb1
  have s2 := before_other h1 h2 (show ¬ (crossN x y u v = 0 ∧ 0 < dotN x y u v) by unfold crossN dotN; simp at hc; omega)
  rw [s1] at s2
  obtain ⟨D, hD⟩ : ∃ D, x * v - y * u = D := ⟨_, rfl⟩
  rw [hD] at hc
  have CR0 := fun w => r4cross_any x y u v w gx gy gu gv
  simp only [hD] at CR0
  have CR := Lib.hid CR0
  clear CR0
  have B00 := fun w => before_any x y x y w gx gy gx gy
  simp only [i0] at B00
  have B0 := Lib.hid B00
  clear B00
  have B10 := fun w => before_any x y u v w gx gy gu gv
  simp only [s1] at B10
  have B1 := Lib.hid B10
  clear B10
  have B20 := fun w => before_any u v x y w gu gv gx gy
  simp only [s2] at B20
  simp only [Bool.not_true, Bool.not_false] at B20
  have B2 := Lib.hid B20
  clear B20
  have NA := Lib.hid na
  clear na gx gy gu gv gc gd h1 h2 h3 i0 s1 s2 hD hb1
  go_enter Try.func6, Try.ntmps6
  go_wp2_with fail
  refine (near3_any _ x y u v c d true _ NA.out (by simp) (by first | simp | simp [go_sem]) (by first | simp | simp [go_sem]) (by first | simp | simp [go_sem]) (by first | simp | simp [go_sem]) (by first | simp | simp [go_sem]) (by first | simp | simp [go_sem])).mono ?_
  rintro e w1 ⟨rfl, h1⟩
  have z1 := h1.size
  simp at z1
  have hs : w.heap.size + 1 + 1 + 1 + 1 + 1 ≤ w1.heap.size := by omega
  have c1 : w1.cell? ⟨w.heap.size, 0, none⟩ = some (.int .i64 (x)) := (h1.cell (p := ⟨w.heap.size, 0, none⟩) (by simp; try omega)).trans (by first | simp | simp [go_sem])
  have c2 : w1.cell? ⟨w.heap.size, 1, none⟩ = some (.int .i64 (y)) := (h1.cell (p := ⟨w.heap.size, 1, none⟩) (by simp; try omega)).trans (by first | simp | simp [go_sem])
  have c3 : w1.cell? ⟨w.heap.size + 1, 0, none⟩ = some (.int .i64 (u)) := (h1.cell (p := ⟨w.heap.size + 1, 0, none⟩) (by simp; try omega)).trans (by first | simp | simp [go_sem])
  have c4 : w1.cell? ⟨w.heap.size + 1, 1, none⟩ = some (.int .i64 (v)) := (h1.cell (p := ⟨w.heap.size + 1, 1, none⟩) (by simp; try omega)).trans (by first | simp | simp [go_sem])
  have c5 : w1.cell? ⟨w.heap.size + 1 + 1, 0, none⟩ = some (.int .i64 (c)) := (h1.cell (p := ⟨w.heap.size + 1 + 1, 0, none⟩) (by simp; try omega)).trans (by first | simp | simp [go_sem])
  have c6 : w1.cell? ⟨w.heap.size + 1 + 1, 1, none⟩ = some (.int .i64 (d)) := (h1.cell (p := ⟨w.heap.size + 1 + 1, 1, none⟩) (by simp; try omega)).trans (by first | simp | simp [go_sem])
  have c7 : w1.cell? ⟨w.heap.size + 1 + 1 + 1, 0, none⟩ = some (.int .i64 (0)) := (h1.cell (p := ⟨w.heap.size + 1 + 1 + 1, 0, none⟩) (by simp; try omega)).trans (by first | simp | simp [go_sem])
  have c8 : w1.cell? ⟨w.heap.size + 1 + 1 + 1, 1, none⟩ = some (.int .i64 (0)) := (h1.cell (p := ⟨w.heap.size + 1 + 1 + 1, 1, none⟩) (by simp; try omega)).trans (by first | simp | simp [go_sem])
  have hb0 : Below w.heap.size w w1 := ((((((Below.refl _ _).alloc (by simp; try omega) _).alloc (by simp; try omega) _).alloc (by simp; try omega) _).alloc (by simp; try omega) _).alloc (by simp; try omega) _).trans (h1.mono (by simp; try omega))
  clear h1 z1
  go_wp2_with fail
  refine (shown_any _).mono ?_
  rintro e w2 ⟨rfl, h2⟩
  obtain ⟨d1, d2, d3, d4, d5, d6, d7, d8, hsz, hb1⟩ := next8 (keep8 ⟨c1, c2, c3, c4, c5, c6, c7, c8, Below.refl _ _⟩ h2 (by dsimp only; omega) (by dsimp only; omega) (by dsimp only; omega) (by dsimp only; omega) (by dsimp only; omega) (by dsimp only; omega) (by dsimp only; omega) (by dsimp only; omega)) (by omega) hb0
  clear c1 c2 c3 c4 c5 c6 c7 c8 hb0 h2
  have c1 := d1
  clear d1
  have c2 := d2
  clear d2
  have c3 := d3
  clear d3
  have c4 := d4
  clear d4
  have c5 := d5
  clear d5
  have c6 := d6
  clear d6
  have c7 := d7
  clear d7
  have c8 := d8
  clear d8
  have hb0 := hb1
  clear hb1
  replace hs := Nat.le_trans hs hsz
  clear hsz
  go_wp2_with fail
  refine (CR.out _).mono ?_
  rintro e w3 ⟨rfl, h3⟩
  obtain ⟨d1, d2, d3, d4, d5, d6, d7, d8, hsz, hb1⟩ := next8 (keep8 ⟨c1, c2, c3, c4, c5, c6, c7, c8, Below.refl _ _⟩ h3 (by dsimp only; omega) (by dsimp only; omega) (by dsimp only; omega) (by dsimp only; omega) (by dsimp only; omega) (by dsimp only; omega) (by dsimp only; omega) (by dsimp only; omega)) (by omega) hb0
  clear c1 c2 c3 c4 c5 c6 c7 c8 hb0 h3
  have c1 := d1
  clear d1
  have c2 := d2
  clear d2
  have c3 := d3
  clear d3
  have c4 := d4
  clear d4
  have c5 := d5
  clear d5
  have c6 := d6
  clear d6
  have c7 := d7
  clear d7
  have c8 := d8
  clear d8
  have hb0 := hb1
  clear hb1
  replace hs := Nat.le_trans hs hsz
  clear hsz
  go_wp2_with fail
  refine wp_region_held_drew (S := fun w' => w'.cell? ⟨w.heap.size, 0, none⟩ = some (.int .i64 (x)) ∧ w'.cell? ⟨w.heap.size, 1, none⟩ = some (.int .i64 (y)) ∧ w'.cell? ⟨w.heap.size + 1, 0, none⟩ = some (.int .i64 (u)) ∧ w'.cell? ⟨w.heap.size + 1, 1, none⟩ = some (.int .i64 (v)) ∧ w'.cell? ⟨w.heap.size + 1 + 1, 0, none⟩ = some (.int .i64 (c)) ∧ w'.cell? ⟨w.heap.size + 1 + 1, 1, none⟩ = some (.int .i64 (d)) ∧ w'.cell? ⟨w.heap.size + 1 + 1 + 1, 0, none⟩ = some (.int .i64 (0)) ∧ w'.cell? ⟨w.heap.size + 1 + 1 + 1, 1, none⟩ = some (.int .i64 (0)) ∧ Below w3.heap.size w3 w') (by kernel_rfl) ⟨by simp [*], by simp [*], by simp [*], by simp [*], by simp [*], by simp [*], by simp [*], by simp [*], (Below.refl _ _).drew⟩ (fun hHeld => ?_)
  refine wpAnyH_take (i := 0) (oi := ⟨some 46, _, _, _, _, _⟩) (v := ?_) rfl (by kernel_rfl) (by kernel_rfl) (by kernel_rfl) (fun _ _ _ h => h) (Or.inl ⟨by rfl, ?_⟩) (by assumption) ?_
  rotate_left
  · (intro w hSw; (try dsimp only at hSw); go_simp; (try with_reducible rfl))
  try simp only [Act.put, List.setIfInBounds_toArray, List.set_cons_zero, List.set_cons_succ]
  refine wpAnyH_take (i := 1) (oi := ⟨some 47, _, _, _, _, _⟩) (v := ?_) rfl (by kernel_rfl) (by kernel_rfl) (by kernel_rfl) (fun _ _ _ h => h) (Or.inl ⟨by rfl, ?_⟩) (by assumption) ?_
  rotate_left
  · (intro w hSw; (try dsimp only at hSw); go_simp; (try with_reducible rfl))
  try simp only [Act.put, List.setIfInBounds_toArray, List.set_cons_zero, List.set_cons_succ]
  refine wpAnyH_ready (rs := [2]) (by kernel_rfl) (by simp) ?_
  refine AllReadyH.cons (o := ⟨some 48, _, _, _, _, _⟩) rfl (fun K hK => ?_) AllReadyH.nil
  go_simp
  first | (go_at_call 24; with_reducible refine (B0.out _).mono ?_; rintro e w' ⟨rfl, hb⟩) | (go_at_call 24; with_reducible refine (B1.out _).mono ?_; rintro e w' ⟨rfl, hb⟩) | (go_at_call 24; with_reducible refine (B2.out _).mono ?_; rintro e w' ⟨rfl, hb⟩)
  try go_wp2_with fail
  refine hK.out _ _ ?_ (fun hHeld => ?_)
  · exact keep8 ‹_› hb (by dsimp only; omega) (by dsimp only; omega) (by dsimp only; omega) (by dsimp only; omega) (by dsimp only; omega) (by dsimp only; omega) (by dsimp only; omega) (by dsimp only; omega)
  clear hK K
  try simp only [Act.put, List.setIfInBounds_toArray, List.set_cons_zero, List.set_cons_succ]
  refine wpAnyH_take (i := 3) (oi := ⟨some 49, _, _, _, _, _⟩) (v := ?_) rfl (by kernel_rfl) (by kernel_rfl) (by kernel_rfl) (fun _ _ _ h => h) (Or.inl ⟨by rfl, ?_⟩) (by assumption) ?_
  rotate_left
  · (intro w hSw; (try dsimp only at hSw); go_simp; (try with_reducible rfl))
  try simp only [Act.put, List.setIfInBounds_toArray, List.set_cons_zero, List.set_cons_succ]
  refine wpAnyH_take (i := 4) (oi := ⟨some 50, _, _, _, _, _⟩) (v := ?_) rfl (by kernel_rfl) (by kernel_rfl) (by kernel_rfl) (fun _ _ _ h => h) (Or.inl ⟨by rfl, ?_⟩) (by assumption) ?_
  rotate_left
  · (intro w hSw; (try dsimp only at hSw); go_simp; (try with_reducible rfl))
  try simp only [Act.put, List.setIfInBounds_toArray, List.set_cons_zero, List.set_cons_succ]
  refine wpAnyH_take (i := 5) (oi := ⟨some 51, _, _, _, _, _⟩) (v := ?_) rfl (by kernel_rfl) (by kernel_rfl) (by kernel_rfl) (fun _ _ _ h => h) (Or.inl ⟨by rfl, ?_⟩) (by assumption) ?_
  rotate_left
  · (intro w hSw; (try dsimp only at hSw); go_simp; (try with_reducible rfl))
  try simp only [Act.put, List.setIfInBounds_toArray, List.set_cons_zero, List.set_cons_succ]
  refine wpAnyH_take (i := 6) (oi := ⟨some 52, _, _, _, _, _⟩) (v := undef) rfl (by kernel_rfl) (by kernel_rfl) (by kernel_rfl) (fun _ _ _ h => h) (Or.inr ⟨by rfl, rfl⟩) (by assumption) ?_
  try simp only [Act.put, List.setIfInBounds_toArray, List.set_cons_zero, List.set_cons_succ]
  refine wpAnyH_take (i := 7) (oi := ⟨some 53, _, _, _, _, _⟩) (v := undef) rfl (by kernel_rfl) (by kernel_rfl) (by kernel_rfl) (fun _ _ _ h => h) (Or.inr ⟨by rfl, rfl⟩) (by assumption) ?_
  try simp only [Act.put, List.setIfInBounds_toArray, List.set_cons_zero, List.set_cons_succ]
  refine wpAnyH_ready (rs := [8]) (by kernel_rfl) (by simp) ?_
  refine AllReadyH.cons (o := ⟨some 54, _, _, _, _, _⟩) rfl (fun K hK => ?_) AllReadyH.nil
  go_simp
  refine hK.out _ _ ?_ (fun hHeld => ?_)
  · assumption
  clear hK K
  try simp only [Act.put, List.setIfInBounds_toArray, List.set_cons_zero, List.set_cons_succ]
  refine wpAnyH_take (i := 9) (oi := ⟨some 55, _, _, _, _, _⟩) (v := undef) rfl (by kernel_rfl) (by kernel_rfl) (by kernel_rfl) (fun _ _ _ h => h) (Or.inr ⟨by rfl, rfl⟩) (by assumption) ?_
  try simp only [Act.put, List.setIfInBounds_toArray, List.set_cons_zero, List.set_cons_succ]
  refine wpAnyH_take (i := 10) (oi := ⟨some 56, _, _, _, _, _⟩) (v := undef) rfl (by kernel_rfl) (by kernel_rfl) (by kernel_rfl) (fun _ _ _ h => h) (Or.inr ⟨by rfl, rfl⟩) (by assumption) ?_
  try simp only [Act.put, List.setIfInBounds_toArray, List.set_cons_zero, List.set_cons_succ]
  refine wpAnyH_take (i := 11) (oi := ⟨some 57, _, _, _, _, _⟩) (v := undef) rfl (by kernel_rfl) (by kernel_rfl) (by kernel_rfl) (fun _ _ _ h => h) (Or.inr ⟨by rfl, rfl⟩) (by assumption) ?_
  try simp only [Act.put, List.setIfInBounds_toArray, List.set_cons_zero, List.set_cons_succ]
  refine wpAnyH_ready (rs := [12]) (by kernel_rfl) (by simp) ?_
  refine AllReadyH.cons (o := ⟨some 58, _, _, _, _, _⟩) rfl (fun K hK => ?_) AllReadyH.nil
  go_simp
  refine hK.out _ _ ?_ (fun hHeld => ?_)
  · assumption
  clear hK K
  try simp only [Act.put, List.setIfInBounds_toArray, List.set_cons_zero, List.set_cons_succ]
  refine wpAnyH_take (i := 13) (oi := ⟨some 59, _, _, _, _, _⟩) (v := undef) rfl (by kernel_rfl) (by kernel_rfl) (by kernel_rfl) (fun _ _ _ h => h) (Or.inr ⟨by rfl, rfl⟩) (by assumption) ?_
  try simp only [Act.put, List.setIfInBounds_toArray, List.set_cons_zero, List.set_cons_succ]
  refine wpAnyH_take (i := 14) (oi := ⟨some 60, _, _, _, _, _⟩) (v := ?_) rfl (by kernel_rfl) (by kernel_rfl) (by kernel_rfl) (fun _ _ _ h => h) (Or.inl ⟨by rfl, ?_⟩) (by assumption) ?_
  rotate_left
  · (intro w hSw; (try dsimp only at hSw); go_simp; (try with_reducible rfl))
  try simp only [Act.put, List.setIfInBounds_toArray, List.set_cons_zero, List.set_cons_succ]
  refine wpAnyH_take (i := 15) (oi := ⟨some 61, _, _, _, _, _⟩) (v := ?_) rfl (by kernel_rfl) (by kernel_rfl) (by kernel_rfl) (fun _ _ _ h => h) (Or.inl ⟨by rfl, ?_⟩) (by assumption) ?_
  rotate_left
  · (intro w hSw; (try dsimp only at hSw); go_simp; (try with_reducible rfl))
  try simp only [Act.put, List.setIfInBounds_toArray, List.set_cons_zero, List.set_cons_succ]
  refine wpAnyH_take (i := 16) (oi := ⟨some 62, _, _, _, _, _⟩) (v := ?_) rfl (by kernel_rfl) (by kernel_rfl) (by kernel_rfl) (fun _ _ _ h => h) (Or.inl ⟨by rfl, ?_⟩) (by assumption) ?_
  rotate_left
  · (intro w hSw; (try dsimp only at hSw); go_simp; (try with_reducible rfl))
  try simp only [Act.put, List.setIfInBounds_toArray, List.set_cons_zero, List.set_cons_succ]
  refine wpAnyH_take (i := 17) (oi := ⟨some 63, _, _, _, _, _⟩) (v := ?_) rfl (by kernel_rfl) (by kernel_rfl) (by kernel_rfl) (fun _ _ _ h => h) (Or.inl ⟨by rfl, ?_⟩) (by assumption) ?_
  rotate_left
  · (intro w hSw; (try dsimp only at hSw); go_simp; (try with_reducible rfl))
  try simp only [Act.put, List.setIfInBounds_toArray, List.set_cons_zero, List.set_cons_succ]
  refine wpAnyH_take (i := 18) (oi := ⟨some 64, _, _, _, _, _⟩) (v := ?_) rfl (by kernel_rfl) (by kernel_rfl) (by kernel_rfl) (fun _ _ _ h => h) (Or.inl ⟨by rfl, ?_⟩) (by assumption) ?_
  rotate_left
  · (intro w hSw; (try dsimp only at hSw); go_simp; (try with_reducible rfl))
  try simp only [Act.put, List.setIfInBounds_toArray, List.set_cons_zero, List.set_cons_succ]
  refine wpAnyH_take (i := 19) (oi := ⟨some 65, _, _, _, _, _⟩) (v := ?_) rfl (by kernel_rfl) (by kernel_rfl) (by kernel_rfl) (fun _ _ _ h => h) (Or.inl ⟨by rfl, ?_⟩) (by assumption) ?_
  rotate_left
  · (intro w hSw; (try dsimp only at hSw); go_simp; (try with_reducible rfl))
  try simp only [Act.put, List.setIfInBounds_toArray, List.set_cons_zero, List.set_cons_succ]
  refine wpAnyH_take (i := 20) (oi := ⟨some 66, _, _, _, _, _⟩) (v := ?_) rfl (by kernel_rfl) (by kernel_rfl) (by kernel_rfl) (fun _ _ _ h => h) (Or.inl ⟨by rfl, ?_⟩) (by assumption) ?_
  rotate_left
  · (intro w hSw; (try dsimp only at hSw); go_simp; (try with_reducible rfl))
  try simp only [Act.put, List.setIfInBounds_toArray, List.set_cons_zero, List.set_cons_succ]
  refine wpAnyH_take (i := 21) (oi := ⟨some 67, _, _, _, _, _⟩) (v := ?_) rfl (by kernel_rfl) (by kernel_rfl) (by kernel_rfl) (fun _ _ _ h => h) (Or.inl ⟨by rfl, ?_⟩) (by assumption) ?_
  rotate_left
  · (intro w hSw; (try dsimp only at hSw); go_simp; (try with_reducible rfl))
  try simp only [Act.put, List.setIfInBounds_toArray, List.set_cons_zero, List.set_cons_succ]
  refine wpAnyH_take (i := 23) (oi := ⟨some 69, _, _, _, _, _⟩) (v := ?_) rfl (by kernel_rfl) (by kernel_rfl) (by kernel_rfl) (fun _ _ _ h => h) (Or.inl ⟨by rfl, ?_⟩) (by assumption) ?_
  rotate_left
  · (intro w hSw; (try dsimp only at hSw); go_simp; (try with_reducible rfl))
  try simp only [Act.put, List.setIfInBounds_toArray, List.set_cons_zero, List.set_cons_succ]
  refine wpAnyH_take (i := 24) (oi := ⟨some 70, _, _, _, _, _⟩) (v := ?_) rfl (by kernel_rfl) (by kernel_rfl) (by kernel_rfl) (fun _ _ _ h => h) (Or.inl ⟨by rfl, ?_⟩) (by assumption) ?_
  rotate_left
  · (intro w hSw; (try dsimp only at hSw); go_simp; (try with_reducible rfl))
  try simp only [Act.put, List.setIfInBounds_toArray, List.set_cons_zero, List.set_cons_succ]
  refine wpAnyH_ready (rs := [22]) (by kernel_rfl) (by simp) ?_
  refine AllReadyH.cons (o := ⟨some 68, _, _, _, _, _⟩) rfl (fun K hK => ?_) AllReadyH.nil
  go_simp
  first | (go_at_call 24; with_reducible refine (B0.out _).mono ?_; rintro e w' ⟨rfl, hb⟩) | (go_at_call 24; with_reducible refine (B1.out _).mono ?_; rintro e w' ⟨rfl, hb⟩) | (go_at_call 24; with_reducible refine (B2.out _).mono ?_; rintro e w' ⟨rfl, hb⟩)
  try go_wp2_with fail
  refine hK.out _ _ ?_ (fun hHeld => ?_)
  · exact keep8 ‹_› hb (by dsimp only; omega) (by dsimp only; omega) (by dsimp only; omega) (by dsimp only; omega) (by dsimp only; omega) (by dsimp only; omega) (by dsimp only; omega) (by dsimp only; omega)
  clear hK K
  try simp only [Act.put, List.setIfInBounds_toArray, List.set_cons_zero, List.set_cons_succ]
  refine wpAnyH_ready (rs := [25]) (by kernel_rfl) (by simp) ?_
  refine AllReadyH.cons (o := ⟨some 71, _, _, _, _, _⟩) rfl (fun K hK => ?_) AllReadyH.nil
  go_simp
  first | (go_at_call 24; with_reducible refine (B0.out _).mono ?_; rintro e w' ⟨rfl, hb⟩) | (go_at_call 24; with_reducible refine (B1.out _).mono ?_; rintro e w' ⟨rfl, hb⟩) | (go_at_call 24; with_reducible refine (B2.out _).mono ?_; rintro e w' ⟨rfl, hb⟩)
  try go_wp2_with fail
  refine hK.out _ _ ?_ (fun hHeld => ?_)
  · exact keep8 ‹_› hb (by dsimp only; omega) (by dsimp only; omega) (by dsimp only; omega) (by dsimp only; omega) (by dsimp only; omega) (by dsimp only; omega) (by dsimp only; omega) (by dsimp only; omega)
  clear hK K
  try simp only [Act.put, List.setIfInBounds_toArray, List.set_cons_zero, List.set_cons_succ]
  refine wpAnyH_take (i := 26) (oi := ⟨some 72, _, _, _, _, _⟩) (v := ?_) rfl (by kernel_rfl) (by kernel_rfl) (by kernel_rfl) (fun _ _ _ h => h) (Or.inl ⟨by rfl, ?_⟩) (by assumption) ?_
  rotate_left
  · (intro w hSw; (try dsimp only at hSw); go_simp; (try with_reducible rfl))
  try simp only [Act.put, List.setIfInBounds_toArray, List.set_cons_zero, List.set_cons_succ]
  refine wpAnyH_take (i := 27) (oi := ⟨some 73, _, _, _, _, _⟩) (v := ?_) rfl (by kernel_rfl) (by kernel_rfl) (by kernel_rfl) (fun _ _ _ h => h) (Or.inl ⟨by rfl, ?_⟩) (by assumption) ?_
  rotate_left
  · (intro w hSw; (try dsimp only at hSw); go_simp; (try with_reducible rfl))
  try simp only [Act.put, List.setIfInBounds_toArray, List.set_cons_zero, List.set_cons_succ]
  refine wpAnyH_take (i := 28) (oi := ⟨some 74, _, _, _, _, _⟩) (v := ?_) rfl (by kernel_rfl) (by kernel_rfl) (by kernel_rfl) (fun _ _ _ h => h) (Or.inl ⟨by rfl, ?_⟩) (by assumption) ?_
  rotate_left
  · (intro w hSw; (try dsimp only at hSw); go_simp; (try with_reducible rfl))
  try simp only [Act.put, List.setIfInBounds_toArray, List.set_cons_zero, List.set_cons_succ]
  refine wpAnyH_done (by kernel_rfl) ?_ _
  refine any_gen (fun z => z.cell? ⟨w.heap.size, 0, none⟩ = some (.int .i64 (x)) ∧ z.cell? ⟨w.heap.size, 1, none⟩ = some (.int .i64 (y)) ∧ z.cell? ⟨w.heap.size + 1, 0, none⟩ = some (.int .i64 (u)) ∧ z.cell? ⟨w.heap.size + 1, 1, none⟩ = some (.int .i64 (v)) ∧ z.cell? ⟨w.heap.size + 1 + 1, 0, none⟩ = some (.int .i64 (c)) ∧ z.cell? ⟨w.heap.size + 1 + 1, 1, none⟩ = some (.int .i64 (d)) ∧ z.cell? ⟨w.heap.size + 1 + 1 + 1, 0, none⟩ = some (.int .i64 (0)) ∧ z.cell? ⟨w.heap.size + 1 + 1 + 1, 1, none⟩ = some (.int .i64 (0)) ∧ w3.heap.size ≤ z.heap.size ∧ Below w.heap.size w z) (next8 ‹_ ∧ _› (by omega) hb0) ?_
  clear c1 c2 c3 c4 c5 c6 c7 c8 hb0
  rintro w5 ⟨c1, c2, c3, c4, c5, c6, c7, c8, hsz, hb0⟩
  replace hs := Nat.le_trans hs hsz
  clear hsz
  go_wp2_with fail
  refine (B1.out _).mono ?_
  rintro e w6 ⟨rfl, h6⟩
  obtain ⟨d1, d2, d3, d4, d5, d6, d7, d8, hsz, hb1⟩ := next8 (keep8 ⟨c1, c2, c3, c4, c5, c6, c7, c8, Below.refl _ _⟩ h6 (by dsimp only; omega) (by dsimp only; omega) (by dsimp only; omega) (by dsimp only; omega) (by dsimp only; omega) (by dsimp only; omega) (by dsimp only; omega) (by dsimp only; omega)) (by omega) hb0
  clear c1 c2 c3 c4 c5 c6 c7 c8 hb0 h6
  have c1 := d1
  clear d1
  have c2 := d2
  clear d2
  have c3 := d3
  clear d3
  have c4 := d4
  clear d4
  have c5 := d5
  clear d5
  have c6 := d6
  clear d6
  have c7 := d7
  clear d7
  have c8 := d8
  clear d8
  have hb0 := hb1
  clear hb1
  replace hs := Nat.le_trans hs hsz
  clear hsz
  go_wp2
  go_ret
  exact ⟨by first | rfl | simp, hb0⟩

theorem ord_n010 (x y u v c d : Int) (w : World) (na : allNear [(x, y), (u, v), (c, d)] = true) (h1 : ¬ (x = 0 ∧ y = 0)) (h2 : ¬ (u = 0 ∧ v = 0)) (h3 : ¬ (c = 0 ∧ d = 0)) (hc : (x * v - y * u == 0) = false) (hb1 : beforeV x y u v = true) (hb2 : beforeV u v c d = false) :
    Calls Try.prog 6 #[P2 x y, P2 u v, P2 c d] w fun e w' => e = .returned (.bool true) ∧ Below w.heap.size w w' := by
  obtain ⟨gx, gy, gu, gv, gc, gd⟩ := near_3 na
  have EQ1 := fun w => eq_pt x y 0 0 false (nz_eq h1) w
  have EQ2 := fun w => eq_pt u v 0 0 false (nz_eq h2) w
  have EQ3 := fun w => eq_pt c d 0 0 false (nz_eq h3) w
  have i0 := before_irr x y
  have s1 := hb1
  have s2 := before_other h1 h2 (show ¬ (crossN x y u v = 0 ∧ 0 < dotN x y u v) by unfold crossN dotN; simp at hc; omega)
  rw [s1] at s2
  obtain ⟨D, hD⟩ : ∃ D, x * v - y * u = D := ⟨_, rfl⟩
  rw [hD] at hc
  have CR0 := fun w => r4cross_any x y u v w gx gy gu gv
  simp only [hD] at CR0
  have CR := Lib.hid CR0
  clear CR0
  have B00 := fun w => before_any x y x y w gx gy gx gy
  simp only [i0] at B00
  have B0 := Lib.hid B00
  clear B00
  have B10 := fun w => before_any x y u v w gx gy gu gv
  simp only [s1] at B10
  have B1 := Lib.hid B10
  clear B10
  have B20 := fun w => before_any u v x y w gu gv gx gy
  simp only [s2] at B20
  simp only [Bool.not_true, Bool.not_false] at B20
  have B2 := Lib.hid B20
  clear B20
  have B30 := fun w => before_any u v c d w gu gv gc gd
  simp only [hb2] at B30
  have B3 := Lib.hid B30
  clear B30
  have NA := Lib.hid na
  clear na gx gy gu gv gc gd h1 h2 h3 i0 s1 s2 hD hb1 hb2
  go_enter Try.func6, Try.ntmps6
  go_wp2_with fail
  refine (near3_any _ x y u v c d true _ NA.out (by simp) (by first | simp | simp [go_sem]) (by first | simp | simp [go_sem]) (by first | simp | simp [go_sem]) (by first | simp | simp [go_sem]) (by first | simp | simp [go_sem]) (by first | simp | simp [go_sem])).mono ?_
  rintro e w1 ⟨rfl, h1⟩
  have z1 := h1.size
  simp at z1
  have hs : w.heap.size + 1 + 1 + 1 + 1 + 1 ≤ w1.heap.size := by omega
  have c1 : w1.cell? ⟨w.heap.size, 0, none⟩ = some (.int .i64 (x)) := (h1.cell (p := ⟨w.heap.size, 0, none⟩) (by simp; try omega)).trans (by first | simp | simp [go_sem])
  have c2 : w1.cell? ⟨w.heap.size, 1, none⟩ = some (.int .i64 (y)) := (h1.cell (p := ⟨w.heap.size, 1, none⟩) (by simp; try omega)).trans (by first | simp | simp [go_sem])
  have c3 : w1.cell? ⟨w.heap.size + 1, 0, none⟩ = some (.int .i64 (u)) := (h1.cell (p := ⟨w.heap.size + 1, 0, none⟩) (by simp; try omega)).trans (by first | simp | simp [go_sem])
  have c4 : w1.cell? ⟨w.heap.size + 1, 1, none⟩ = some (.int .i64 (v)) := (h1.cell (p := ⟨w.heap.size + 1, 1, none⟩) (by simp; try omega)).trans (by first | simp | simp [go_sem])
  have c5 : w1.cell? ⟨w.heap.size + 1 + 1, 0, none⟩ = some (.int .i64 (c)) := (h1.cell (p := ⟨w.heap.size + 1 + 1, 0, none⟩) (by simp; try omega)).trans (by first | simp | simp [go_sem])
  have c6 : w1.cell? ⟨w.heap.size + 1 + 1, 1, none⟩ = some (.int .i64 (d)) := (h1.cell (p := ⟨w.heap.size + 1 + 1, 1, none⟩) (by simp; try omega)).trans (by first | simp | simp [go_sem])
  have c7 : w1.cell? ⟨w.heap.size + 1 + 1 + 1, 0, none⟩ = some (.int .i64 (0)) := (h1.cell (p := ⟨w.heap.size + 1 + 1 + 1, 0, none⟩) (by simp; try omega)).trans (by first | simp | simp [go_sem])
  have c8 : w1.cell? ⟨w.heap.size + 1 + 1 + 1, 1, none⟩ = some (.int .i64 (0)) := (h1.cell (p := ⟨w.heap.size + 1 + 1 + 1, 1, none⟩) (by simp; try omega)).trans (by first | simp | simp [go_sem])
  have hb0 : Below w.heap.size w w1 := ((((((Below.refl _ _).alloc (by simp; try omega) _).alloc (by simp; try omega) _).alloc (by simp; try omega) _).alloc (by simp; try omega) _).alloc (by simp; try omega) _).trans (h1.mono (by simp; try omega))
  clear h1 z1
  go_wp2_with fail
  refine (shown_any _).mono ?_
  rintro e w2 ⟨rfl, h2⟩
  obtain ⟨d1, d2, d3, d4, d5, d6, d7, d8, hsz, hb1⟩ := next8 (keep8 ⟨c1, c2, c3, c4, c5, c6, c7, c8, Below.refl _ _⟩ h2 (by dsimp only; omega) (by dsimp only; omega) (by dsimp only; omega) (by dsimp only; omega) (by dsimp only; omega) (by dsimp only; omega) (by dsimp only; omega) (by dsimp only; omega)) (by omega) hb0
  clear c1 c2 c3 c4 c5 c6 c7 c8 hb0 h2
  have c1 := d1
  clear d1
  have c2 := d2
  clear d2
  have c3 := d3
  clear d3
  have c4 := d4
  clear d4
  have c5 := d5
  clear d5
  have c6 := d6
  clear d6
  have c7 := d7
  clear d7
  have c8 := d8
  clear d8
  have hb0 := hb1
  clear hb1
  replace hs := Nat.le_trans hs hsz
  clear hsz
  go_wp2_with fail
  refine (CR.out _).mono ?_
  rintro e w3 ⟨rfl, h3⟩
  obtain ⟨d1, d2, d3, d4, d5, d6, d7, d8, hsz, hb1⟩ := next8 (keep8 ⟨c1, c2, c3, c4, c5, c6, c7, c8, Below.refl _ _⟩ h3 (by dsimp only; omega) (by dsimp only; omega) (by dsimp only; omega) (by dsimp only; omega) (by dsimp only; omega) (by dsimp only; omega) (by dsimp only; omega) (by dsimp only; omega)) (by omega) hb0
  clear c1 c2 c3 c4 c5 c6 c7 c8 hb0 h3
  have c1 := d1
  clear d1
  have c2 := d2
  clear d2
  have c3 := d3
  clear d3
  have c4 := d4
  clear d4
  have c5 := d5
  clear d5
  have c6 := d6
  clear d6
  have c7 := d7
  clear d7
  have c8 := d8
  clear d8
  have hb0 := hb1
  clear hb1
  replace hs := Nat.le_trans hs hsz
  clear hsz
  go_wp2_with fail
  refine wp_region_held_drew (S := fun w' => w'.cell? ⟨w.heap.size, 0, none⟩ = some (.int .i64 (x)) ∧ w'.cell? ⟨w.heap.size, 1, none⟩ = some (.int .i64 (y)) ∧ w'.cell? ⟨w.heap.size + 1, 0, none⟩ = some (.int .i64 (u)) ∧ w'.cell? ⟨w.heap.size + 1, 1, none⟩ = some (.int .i64 (v)) ∧ w'.cell? ⟨w.heap.size + 1 + 1, 0, none⟩ = some (.int .i64 (c)) ∧ w'.cell? ⟨w.heap.size + 1 + 1, 1, none⟩ = some (.int .i64 (d)) ∧ w'.cell? ⟨w.heap.size + 1 + 1 + 1, 0, none⟩ = some (.int .i64 (0)) ∧ w'.cell? ⟨w.heap.size + 1 + 1 + 1, 1, none⟩ = some (.int .i64 (0)) ∧ Below w3.heap.size w3 w') (by kernel_rfl) ⟨by simp [*], by simp [*], by simp [*], by simp [*], by simp [*], by simp [*], by simp [*], by simp [*], (Below.refl _ _).drew⟩ (fun hHeld => ?_)
  refine wpAnyH_take (i := 0) (oi := ⟨some 46, _, _, _, _, _⟩) (v := ?_) rfl (by kernel_rfl) (by kernel_rfl) (by kernel_rfl) (fun _ _ _ h => h) (Or.inl ⟨by rfl, ?_⟩) (by assumption) ?_
  rotate_left
  · (intro w hSw; (try dsimp only at hSw); go_simp; (try with_reducible rfl))
  try simp only [Act.put, List.setIfInBounds_toArray, List.set_cons_zero, List.set_cons_succ]
  refine wpAnyH_take (i := 1) (oi := ⟨some 47, _, _, _, _, _⟩) (v := ?_) rfl (by kernel_rfl) (by kernel_rfl) (by kernel_rfl) (fun _ _ _ h => h) (Or.inl ⟨by rfl, ?_⟩) (by assumption) ?_
  rotate_left
  · (intro w hSw; (try dsimp only at hSw); go_simp; (try with_reducible rfl))
  try simp only [Act.put, List.setIfInBounds_toArray, List.set_cons_zero, List.set_cons_succ]
  refine wpAnyH_ready (rs := [2]) (by kernel_rfl) (by simp) ?_
  refine AllReadyH.cons (o := ⟨some 48, _, _, _, _, _⟩) rfl (fun K hK => ?_) AllReadyH.nil
  go_simp
  first | (go_at_call 24; with_reducible refine (B0.out _).mono ?_; rintro e w' ⟨rfl, hb⟩) | (go_at_call 24; with_reducible refine (B1.out _).mono ?_; rintro e w' ⟨rfl, hb⟩) | (go_at_call 24; with_reducible refine (B2.out _).mono ?_; rintro e w' ⟨rfl, hb⟩)
  try go_wp2_with fail
  refine hK.out _ _ ?_ (fun hHeld => ?_)
  · exact keep8 ‹_› hb (by dsimp only; omega) (by dsimp only; omega) (by dsimp only; omega) (by dsimp only; omega) (by dsimp only; omega) (by dsimp only; omega) (by dsimp only; omega) (by dsimp only; omega)
  clear hK K
  try simp only [Act.put, List.setIfInBounds_toArray, List.set_cons_zero, List.set_cons_succ]
  refine wpAnyH_take (i := 3) (oi := ⟨some 49, _, _, _, _, _⟩) (v := ?_) rfl (by kernel_rfl) (by kernel_rfl) (by kernel_rfl) (fun _ _ _ h => h) (Or.inl ⟨by rfl, ?_⟩) (by assumption) ?_
  rotate_left
  · (intro w hSw; (try dsimp only at hSw); go_simp; (try with_reducible rfl))
  try simp only [Act.put, List.setIfInBounds_toArray, List.set_cons_zero, List.set_cons_succ]
  refine wpAnyH_take (i := 4) (oi := ⟨some 50, _, _, _, _, _⟩) (v := ?_) rfl (by kernel_rfl) (by kernel_rfl) (by kernel_rfl) (fun _ _ _ h => h) (Or.inl ⟨by rfl, ?_⟩) (by assumption) ?_
  rotate_left
  · (intro w hSw; (try dsimp only at hSw); go_simp; (try with_reducible rfl))
  try simp only [Act.put, List.setIfInBounds_toArray, List.set_cons_zero, List.set_cons_succ]
  refine wpAnyH_take (i := 5) (oi := ⟨some 51, _, _, _, _, _⟩) (v := ?_) rfl (by kernel_rfl) (by kernel_rfl) (by kernel_rfl) (fun _ _ _ h => h) (Or.inl ⟨by rfl, ?_⟩) (by assumption) ?_
  rotate_left
  · (intro w hSw; (try dsimp only at hSw); go_simp; (try with_reducible rfl))
  try simp only [Act.put, List.setIfInBounds_toArray, List.set_cons_zero, List.set_cons_succ]
  refine wpAnyH_take (i := 6) (oi := ⟨some 52, _, _, _, _, _⟩) (v := undef) rfl (by kernel_rfl) (by kernel_rfl) (by kernel_rfl) (fun _ _ _ h => h) (Or.inr ⟨by rfl, rfl⟩) (by assumption) ?_
  try simp only [Act.put, List.setIfInBounds_toArray, List.set_cons_zero, List.set_cons_succ]
  refine wpAnyH_take (i := 7) (oi := ⟨some 53, _, _, _, _, _⟩) (v := undef) rfl (by kernel_rfl) (by kernel_rfl) (by kernel_rfl) (fun _ _ _ h => h) (Or.inr ⟨by rfl, rfl⟩) (by assumption) ?_
  try simp only [Act.put, List.setIfInBounds_toArray, List.set_cons_zero, List.set_cons_succ]
  refine wpAnyH_ready (rs := [8]) (by kernel_rfl) (by simp) ?_
  refine AllReadyH.cons (o := ⟨some 54, _, _, _, _, _⟩) rfl (fun K hK => ?_) AllReadyH.nil
  go_simp
  refine hK.out _ _ ?_ (fun hHeld => ?_)
  · assumption
  clear hK K
  try simp only [Act.put, List.setIfInBounds_toArray, List.set_cons_zero, List.set_cons_succ]
  refine wpAnyH_take (i := 9) (oi := ⟨some 55, _, _, _, _, _⟩) (v := undef) rfl (by kernel_rfl) (by kernel_rfl) (by kernel_rfl) (fun _ _ _ h => h) (Or.inr ⟨by rfl, rfl⟩) (by assumption) ?_
  try simp only [Act.put, List.setIfInBounds_toArray, List.set_cons_zero, List.set_cons_succ]
  refine wpAnyH_take (i := 10) (oi := ⟨some 56, _, _, _, _, _⟩) (v := undef) rfl (by kernel_rfl) (by kernel_rfl) (by kernel_rfl) (fun _ _ _ h => h) (Or.inr ⟨by rfl, rfl⟩) (by assumption) ?_
  try simp only [Act.put, List.setIfInBounds_toArray, List.set_cons_zero, List.set_cons_succ]
  refine wpAnyH_take (i := 11) (oi := ⟨some 57, _, _, _, _, _⟩) (v := undef) rfl (by kernel_rfl) (by kernel_rfl) (by kernel_rfl) (fun _ _ _ h => h) (Or.inr ⟨by rfl, rfl⟩) (by assumption) ?_
  try simp only [Act.put, List.setIfInBounds_toArray, List.set_cons_zero, List.set_cons_succ]
  refine wpAnyH_ready (rs := [12]) (by kernel_rfl) (by simp) ?_
  refine AllReadyH.cons (o := ⟨some 58, _, _, _, _, _⟩) rfl (fun K hK => ?_) AllReadyH.nil
  go_simp
  refine hK.out _ _ ?_ (fun hHeld => ?_)
  · assumption
  clear hK K
  try simp only [Act.put, List.setIfInBounds_toArray, List.set_cons_zero, List.set_cons_succ]
  refine wpAnyH_take (i := 13) (oi := ⟨some 59, _, _, _, _, _⟩) (v := undef) rfl (by kernel_rfl) (by kernel_rfl) (by kernel_rfl) (fun _ _ _ h => h) (Or.inr ⟨by rfl, rfl⟩) (by assumption) ?_
  try simp only [Act.put, List.setIfInBounds_toArray, List.set_cons_zero, List.set_cons_succ]
  refine wpAnyH_take (i := 14) (oi := ⟨some 60, _, _, _, _, _⟩) (v := ?_) rfl (by kernel_rfl) (by kernel_rfl) (by kernel_rfl) (fun _ _ _ h => h) (Or.inl ⟨by rfl, ?_⟩) (by assumption) ?_
  rotate_left
  · (intro w hSw; (try dsimp only at hSw); go_simp; (try with_reducible rfl))
  try simp only [Act.put, List.setIfInBounds_toArray, List.set_cons_zero, List.set_cons_succ]
  refine wpAnyH_take (i := 15) (oi := ⟨some 61, _, _, _, _, _⟩) (v := ?_) rfl (by kernel_rfl) (by kernel_rfl) (by kernel_rfl) (fun _ _ _ h => h) (Or.inl ⟨by rfl, ?_⟩) (by assumption) ?_
  rotate_left
  · (intro w hSw; (try dsimp only at hSw); go_simp; (try with_reducible rfl))
  try simp only [Act.put, List.setIfInBounds_toArray, List.set_cons_zero, List.set_cons_succ]
  refine wpAnyH_take (i := 16) (oi := ⟨some 62, _, _, _, _, _⟩) (v := ?_) rfl (by kernel_rfl) (by kernel_rfl) (by kernel_rfl) (fun _ _ _ h => h) (Or.inl ⟨by rfl, ?_⟩) (by assumption) ?_
  rotate_left
  · (intro w hSw; (try dsimp only at hSw); go_simp; (try with_reducible rfl))
  try simp only [Act.put, List.setIfInBounds_toArray, List.set_cons_zero, List.set_cons_succ]
  refine wpAnyH_take (i := 17) (oi := ⟨some 63, _, _, _, _, _⟩) (v := ?_) rfl (by kernel_rfl) (by kernel_rfl) (by kernel_rfl) (fun _ _ _ h => h) (Or.inl ⟨by rfl, ?_⟩) (by assumption) ?_
  rotate_left
  · (intro w hSw; (try dsimp only at hSw); go_simp; (try with_reducible rfl))
  try simp only [Act.put, List.setIfInBounds_toArray, List.set_cons_zero, List.set_cons_succ]
  refine wpAnyH_take (i := 18) (oi := ⟨some 64, _, _, _, _, _⟩) (v := ?_) rfl (by kernel_rfl) (by kernel_rfl) (by kernel_rfl) (fun _ _ _ h => h) (Or.inl ⟨by rfl, ?_⟩) (by assumption) ?_
  rotate_left
  · (intro w hSw; (try dsimp only at hSw); go_simp; (try with_reducible rfl))
  try simp only [Act.put, List.setIfInBounds_toArray, List.set_cons_zero, List.set_cons_succ]
  refine wpAnyH_take (i := 19) (oi := ⟨some 65, _, _, _, _, _⟩) (v := ?_) rfl (by kernel_rfl) (by kernel_rfl) (by kernel_rfl) (fun _ _ _ h => h) (Or.inl ⟨by rfl, ?_⟩) (by assumption) ?_
  rotate_left
  · (intro w hSw; (try dsimp only at hSw); go_simp; (try with_reducible rfl))
  try simp only [Act.put, List.setIfInBounds_toArray, List.set_cons_zero, List.set_cons_succ]
  refine wpAnyH_take (i := 20) (oi := ⟨some 66, _, _, _, _, _⟩) (v := ?_) rfl (by kernel_rfl) (by kernel_rfl) (by kernel_rfl) (fun _ _ _ h => h) (Or.inl ⟨by rfl, ?_⟩) (by assumption) ?_
  rotate_left
  · (intro w hSw; (try dsimp only at hSw); go_simp; (try with_reducible rfl))
  try simp only [Act.put, List.setIfInBounds_toArray, List.set_cons_zero, List.set_cons_succ]
  refine wpAnyH_take (i := 21) (oi := ⟨some 67, _, _, _, _, _⟩) (v := ?_) rfl (by kernel_rfl) (by kernel_rfl) (by kernel_rfl) (fun _ _ _ h => h) (Or.inl ⟨by rfl, ?_⟩) (by assumption) ?_
  rotate_left
  · (intro w hSw; (try dsimp only at hSw); go_simp; (try with_reducible rfl))
  try simp only [Act.put, List.setIfInBounds_toArray, List.set_cons_zero, List.set_cons_succ]
  refine wpAnyH_take (i := 23) (oi := ⟨some 69, _, _, _, _, _⟩) (v := ?_) rfl (by kernel_rfl) (by kernel_rfl) (by kernel_rfl) (fun _ _ _ h => h) (Or.inl ⟨by rfl, ?_⟩) (by assumption) ?_
  rotate_left
  · (intro w hSw; (try dsimp only at hSw); go_simp; (try with_reducible rfl))
  try simp only [Act.put, List.setIfInBounds_toArray, List.set_cons_zero, List.set_cons_succ]
  refine wpAnyH_take (i := 24) (oi := ⟨some 70, _, _, _, _, _⟩) (v := ?_) rfl (by kernel_rfl) (by kernel_rfl) (by kernel_rfl) (fun _ _ _ h => h) (Or.inl ⟨by rfl, ?_⟩) (by assumption) ?_
  rotate_left
  · (intro w hSw; (try dsimp only at hSw); go_simp; (try with_reducible rfl))
  try simp only [Act.put, List.setIfInBounds_toArray, List.set_cons_zero, List.set_cons_succ]
  refine wpAnyH_ready (rs := [22]) (by kernel_rfl) (by simp) ?_
  refine AllReadyH.cons (o := ⟨some 68, _, _, _, _, _⟩) rfl (fun K hK => ?_) AllReadyH.nil
  go_simp
  first | (go_at_call 24; with_reducible refine (B0.out _).mono ?_; rintro e w' ⟨rfl, hb⟩) | (go_at_call 24; with_reducible refine (B1.out _).mono ?_; rintro e w' ⟨rfl, hb⟩) | (go_at_call 24; with_reducible refine (B2.out _).mono ?_; rintro e w' ⟨rfl, hb⟩)
  try go_wp2_with fail
  refine hK.out _ _ ?_ (fun hHeld => ?_)
  · exact keep8 ‹_› hb (by dsimp only; omega) (by dsimp only; omega) (by dsimp only; omega) (by dsimp only; omega) (by dsimp only; omega) (by dsimp only; omega) (by dsimp only; omega) (by dsimp only; omega)
  clear hK K
  try simp only [Act.put, List.setIfInBounds_toArray, List.set_cons_zero, List.set_cons_succ]
  refine wpAnyH_ready (rs := [25]) (by kernel_rfl) (by simp) ?_
  refine AllReadyH.cons (o := ⟨some 71, _, _, _, _, _⟩) rfl (fun K hK => ?_) AllReadyH.nil
  go_simp
  first | (go_at_call 24; with_reducible refine (B0.out _).mono ?_; rintro e w' ⟨rfl, hb⟩) | (go_at_call 24; with_reducible refine (B1.out _).mono ?_; rintro e w' ⟨rfl, hb⟩) | (go_at_call 24; with_reducible refine (B2.out _).mono ?_; rintro e w' ⟨rfl, hb⟩)
  try go_wp2_with fail
  refine hK.out _ _ ?_ (fun hHeld => ?_)
  · exact keep8 ‹_› hb (by dsimp only; omega) (by dsimp only; omega) (by dsimp only; omega) (by dsimp only; omega) (by dsimp only; omega) (by dsimp only; omega) (by dsimp only; omega) (by dsimp only; omega)
  clear hK K
  try simp only [Act.put, List.setIfInBounds_toArray, List.set_cons_zero, List.set_cons_succ]
  refine wpAnyH_take (i := 26) (oi := ⟨some 72, _, _, _, _, _⟩) (v := ?_) rfl (by kernel_rfl) (by kernel_rfl) (by kernel_rfl) (fun _ _ _ h => h) (Or.inl ⟨by rfl, ?_⟩) (by assumption) ?_
  rotate_left
  · (intro w hSw; (try dsimp only at hSw); go_simp; (try with_reducible rfl))
  try simp only [Act.put, List.setIfInBounds_toArray, List.set_cons_zero, List.set_cons_succ]
  refine wpAnyH_take (i := 27) (oi := ⟨some 73, _, _, _, _, _⟩) (v := ?_) rfl (by kernel_rfl) (by kernel_rfl) (by kernel_rfl) (fun _ _ _ h => h) (Or.inl ⟨by rfl, ?_⟩) (by assumption) ?_
  rotate_left
  · (intro w hSw; (try dsimp only at hSw); go_simp; (try with_reducible rfl))
  try simp only [Act.put, List.setIfInBounds_toArray, List.set_cons_zero, List.set_cons_succ]
  refine wpAnyH_take (i := 28) (oi := ⟨some 74, _, _, _, _, _⟩) (v := ?_) rfl (by kernel_rfl) (by kernel_rfl) (by kernel_rfl) (fun _ _ _ h => h) (Or.inl ⟨by rfl, ?_⟩) (by assumption) ?_
  rotate_left
  · (intro w hSw; (try dsimp only at hSw); go_simp; (try with_reducible rfl))
  try simp only [Act.put, List.setIfInBounds_toArray, List.set_cons_zero, List.set_cons_succ]
  refine wpAnyH_done (by kernel_rfl) ?_ _
  refine any_gen (fun z => z.cell? ⟨w.heap.size, 0, none⟩ = some (.int .i64 (x)) ∧ z.cell? ⟨w.heap.size, 1, none⟩ = some (.int .i64 (y)) ∧ z.cell? ⟨w.heap.size + 1, 0, none⟩ = some (.int .i64 (u)) ∧ z.cell? ⟨w.heap.size + 1, 1, none⟩ = some (.int .i64 (v)) ∧ z.cell? ⟨w.heap.size + 1 + 1, 0, none⟩ = some (.int .i64 (c)) ∧ z.cell? ⟨w.heap.size + 1 + 1, 1, none⟩ = some (.int .i64 (d)) ∧ z.cell? ⟨w.heap.size + 1 + 1 + 1, 0, none⟩ = some (.int .i64 (0)) ∧ z.cell? ⟨w.heap.size + 1 + 1 + 1, 1, none⟩ = some (.int .i64 (0)) ∧ w3.heap.size ≤ z.heap.size ∧ Below w.heap.size w z) (next8 ‹_ ∧ _› (by omega) hb0) ?_
  clear c1 c2 c3 c4 c5 c6 c7 c8 hb0
  rintro w5 ⟨c1, c2, c3, c4, c5, c6, c7, c8, hsz, hb0⟩
  replace hs := Nat.le_trans hs hsz
  clear hsz
  go_wp2_with fail
  refine (B1.out _).mono ?_
  rintro e w6 ⟨rfl, h6⟩
  obtain ⟨d1, d2, d3, d4, d5, d6, d7, d8, hsz, hb1⟩ := next8 (keep8 ⟨c1, c2, c3, c4, c5, c6, c7, c8, Below.refl _ _⟩ h6 (by dsimp only; omega) (by dsimp only; omega) (by dsimp only; omega) (by dsimp only; omega) (by dsimp only; omega) (by dsimp only; omega) (by dsimp only; omega) (by dsimp only; omega)) (by omega) hb0
  clear c1 c2 c3 c4 c5 c6 c7 c8 hb0 h6
  have c1 := d1
  clear d1
  have c2 := d2
  clear d2
  have c3 := d3
  clear d3
  have c4 := d4
  clear d4
  have c5 := d5
  clear d5
  have c6 := d6
  clear d6
  have c7 := d7
  clear d7
  have c8 := d8
  clear d8
  have hb0 := hb1
  clear hb1
  replace hs := Nat.le_trans hs hsz
  clear hsz
  go_wp2_with fail
  refine (B3.out _).mono ?_
  rintro e w7 ⟨rfl, h7⟩
  obtain ⟨d1, d2, d3, d4, d5, d6, d7, d8, hsz, hb1⟩ := next8 (keep8 ⟨c1, c2, c3, c4, c5, c6, c7, c8, Below.refl _ _⟩ h7 (by dsimp only; omega) (by dsimp only; omega) (by dsimp only; omega) (by dsimp only; omega) (by dsimp only; omega) (by dsimp only; omega) (by dsimp only; omega) (by dsimp only; omega)) (by omega) hb0
  clear c1 c2 c3 c4 c5 c6 c7 c8 hb0 h7
  have c1 := d1
  clear d1
  have c2 := d2
  clear d2
  have c3 := d3
  clear d3
  have c4 := d4
  clear d4
  have c5 := d5
  clear d5
  have c6 := d6
  clear d6
  have c7 := d7
  clear d7
  have c8 := d8
  clear d8
  have hb0 := hb1
  clear hb1
  replace hs := Nat.le_trans hs hsz
  clear hsz
  go_wp2
  go_ret
  exact ⟨by first | rfl | simp, hb0⟩

theorem ord_n011 (x y u v c d : Int) (w : World) (na : allNear [(x, y), (u, v), (c, d)] = true) (h1 : ¬ (x = 0 ∧ y = 0)) (h2 : ¬ (u = 0 ∧ v = 0)) (h3 : ¬ (c = 0 ∧ d = 0)) (hc : (x * v - y * u == 0) = false) (hb1 : beforeV x y u v = true) (hb2 : beforeV u v c d = true) :
    Calls Try.prog 6 #[P2 x y, P2 u v, P2 c d] w fun e w' => e = .returned (.bool true) ∧ Below w.heap.size w w' := by
  obtain ⟨gx, gy, gu, gv, gc, gd⟩ := near_3 na
  have EQ1 := fun w => eq_pt x y 0 0 false (nz_eq h1) w
  have EQ2 := fun w => eq_pt u v 0 0 false (nz_eq h2) w
  have EQ3 := fun w => eq_pt c d 0 0 false (nz_eq h3) w
  have i0 := before_irr x y
  have s1 := hb1
  have s2 := before_other h1 h2 (show ¬ (crossN x y u v = 0 ∧ 0 < dotN x y u v) by unfold crossN dotN; simp at hc; omega)
  rw [s1] at s2
  have s3 := before_trans h1 h2 h3 hb1 hb2
  obtain ⟨D, hD⟩ : ∃ D, x * v - y * u = D := ⟨_, rfl⟩
  rw [hD] at hc
  have CR0 := fun w => r4cross_any x y u v w gx gy gu gv
  simp only [hD] at CR0
  have CR := Lib.hid CR0
  clear CR0
  have B00 := fun w => before_any x y x y w gx gy gx gy
  simp only [i0] at B00
  have B0 := Lib.hid B00
  clear B00
  have B10 := fun w => before_any x y u v w gx gy gu gv
  simp only [s1] at B10
  have B1 := Lib.hid B10
  clear B10
  have B20 := fun w => before_any u v x y w gu gv gx gy
  simp only [s2] at B20
  simp only [Bool.not_true, Bool.not_false] at B20
  have B2 := Lib.hid B20
  clear B20
  have B30 := fun w => before_any u v c d w gu gv gc gd
  simp only [hb2] at B30
  have B3 := Lib.hid B30
  clear B30
  have B40 := fun w => before_any x y c d w gx gy gc gd
  simp only [s3] at B40
  have B4 := Lib.hid B40
  clear B40
  have NA := Lib.hid na
  clear na gx gy gu gv gc gd h1 h2 h3 i0 s1 s2 hD hb1 hb2 s3
  go_enter Try.func6, Try.ntmps6
  go_wp2_with fail
  refine (near3_any _ x y u v c d true _ NA.out (by simp) (by first | simp | simp [go_sem]) (by first | simp | simp [go_sem]) (by first | simp | simp [go_sem]) (by first | simp | simp [go_sem]) (by first | simp | simp [go_sem]) (by first | simp | simp [go_sem])).mono ?_
  rintro e w1 ⟨rfl, h1⟩
  have z1 := h1.size
  simp at z1
  have hs : w.heap.size + 1 + 1 + 1 + 1 + 1 ≤ w1.heap.size := by omega
  have c1 : w1.cell? ⟨w.heap.size, 0, none⟩ = some (.int .i64 (x)) := (h1.cell (p := ⟨w.heap.size, 0, none⟩) (by simp; try omega)).trans (by first | simp | simp [go_sem])
  have c2 : w1.cell? ⟨w.heap.size, 1, none⟩ = some (.int .i64 (y)) := (h1.cell (p := ⟨w.heap.size, 1, none⟩) (by simp; try omega)).trans (by first | simp | simp [go_sem])
  have c3 : w1.cell? ⟨w.heap.size + 1, 0, none⟩ = some (.int .i64 (u)) := (h1.cell (p := ⟨w.heap.size + 1, 0, none⟩) (by simp; try omega)).trans (by first | simp | simp [go_sem])
  have c4 : w1.cell? ⟨w.heap.size + 1, 1, none⟩ = some (.int .i64 (v)) := (h1.cell (p := ⟨w.heap.size + 1, 1, none⟩) (by simp; try omega)).trans (by first | simp | simp [go_sem])
  have c5 : w1.cell? ⟨w.heap.size + 1 + 1, 0, none⟩ = some (.int .i64 (c)) := (h1.cell (p := ⟨w.heap.size + 1 + 1, 0, none⟩) (by simp; try omega)).trans (by first | simp | simp [go_sem])
  have c6 : w1.cell? ⟨w.heap.size + 1 + 1, 1, none⟩ = some (.int .i64 (d)) := (h1.cell (p := ⟨w.heap.size + 1 + 1, 1, none⟩) (by simp; try omega)).trans (by first | simp | simp [go_sem])
  have c7 : w1.cell? ⟨w.heap.size + 1 + 1 + 1, 0, none⟩ = some (.int .i64 (0)) := (h1.cell (p := ⟨w.heap.size + 1 + 1 + 1, 0, none⟩) (by simp; try omega)).trans (by first | simp | simp [go_sem])
  have c8 : w1.cell? ⟨w.heap.size + 1 + 1 + 1, 1, none⟩ = some (.int .i64 (0)) := (h1.cell (p := ⟨w.heap.size + 1 + 1 + 1, 1, none⟩) (by simp; try omega)).trans (by first | simp | simp [go_sem])
  have hb0 : Below w.heap.size w w1 := ((((((Below.refl _ _).alloc (by simp; try omega) _).alloc (by simp; try omega) _).alloc (by simp; try omega) _).alloc (by simp; try omega) _).alloc (by simp; try omega) _).trans (h1.mono (by simp; try omega))
  clear h1 z1
  go_wp2_with fail
  refine (shown_any _).mono ?_
  rintro e w2 ⟨rfl, h2⟩
  obtain ⟨d1, d2, d3, d4, d5, d6, d7, d8, hsz, hb1⟩ := next8 (keep8 ⟨c1, c2, c3, c4, c5, c6, c7, c8, Below.refl _ _⟩ h2 (by dsimp only; omega) (by dsimp only; omega) (by dsimp only; omega) (by dsimp only; omega) (by dsimp only; omega) (by dsimp only; omega) (by dsimp only; omega) (by dsimp only; omega)) (by omega) hb0
  clear c1 c2 c3 c4 c5 c6 c7 c8 hb0 h2
  have c1 := d1
  clear d1
  have c2 := d2
  clear d2
  have c3 := d3
  clear d3
  have c4 := d4
  clear d4
  have c5 := d5
  clear d5
  have c6 := d6
  clear d6
  have c7 := d7
  clear d7
  have c8 := d8
  clear d8
  have hb0 := hb1
  clear hb1
  replace hs := Nat.le_trans hs hsz
  clear hsz
  go_wp2_with fail
  refine (CR.out _).mono ?_
  rintro e w3 ⟨rfl, h3⟩
  obtain ⟨d1, d2, d3, d4, d5, d6, d7, d8, hsz, hb1⟩ := next8 (keep8 ⟨c1, c2, c3, c4, c5, c6, c7, c8, Below.refl _ _⟩ h3 (by dsimp only; omega) (by dsimp only; omega) (by dsimp only; omega) (by dsimp only; omega) (by dsimp only; omega) (by dsimp only; omega) (by dsimp only; omega) (by dsimp only; omega)) (by omega) hb0
  clear c1 c2 c3 c4 c5 c6 c7 c8 hb0 h3
  have c1 := d1
  clear d1
  have c2 := d2
  clear d2
  have c3 := d3
  clear d3
  have c4 := d4
  clear d4
  have c5 := d5
  clear d5
  have c6 := d6
  clear d6
  have c7 := d7
  clear d7
  have c8 := d8
  clear d8
  have hb0 := hb1
  clear hb1
  replace hs := Nat.le_trans hs hsz
  clear hsz
  go_wp2_with fail
  refine wp_region_held_drew (S := fun w' => w'.cell? ⟨w.heap.size, 0, none⟩ = some (.int .i64 (x)) ∧ w'.cell? ⟨w.heap.size, 1, none⟩ = some (.int .i64 (y)) ∧ w'.cell? ⟨w.heap.size + 1, 0, none⟩ = some (.int .i64 (u)) ∧ w'.cell? ⟨w.heap.size + 1, 1, none⟩ = some (.int .i64 (v)) ∧ w'.cell? ⟨w.heap.size + 1 + 1, 0, none⟩ = some (.int .i64 (c)) ∧ w'.cell? ⟨w.heap.size + 1 + 1, 1, none⟩ = some (.int .i64 (d)) ∧ w'.cell? ⟨w.heap.size + 1 + 1 + 1, 0, none⟩ = some (.int .i64 (0)) ∧ w'.cell? ⟨w.heap.size + 1 + 1 + 1, 1, none⟩ = some (.int .i64 (0)) ∧ Below w3.heap.size w3 w') (by kernel_rfl) ⟨by simp [*], by simp [*], by simp [*], by simp [*], by simp [*], by simp [*], by simp [*], by simp [*], (Below.refl _ _).drew⟩ (fun hHeld => ?_)
  refine wpAnyH_take (i := 0) (oi := ⟨some 46, _, _, _, _, _⟩) (v := ?_) rfl (by kernel_rfl) (by kernel_rfl) (by kernel_rfl) (fun _ _ _ h => h) (Or.inl ⟨by rfl, ?_⟩) (by assumption) ?_
  rotate_left
  · (intro w hSw; (try dsimp only at hSw); go_simp; (try with_reducible rfl))
  try simp only [Act.put, List.setIfInBounds_toArray, List.set_cons_zero, List.set_cons_succ]
  refine wpAnyH_take (i := 1) (oi := ⟨some 47, _, _, _, _, _⟩) (v := ?_) rfl (by kernel_rfl) (by kernel_rfl) (by kernel_rfl) (fun _ _ _ h => h) (Or.inl ⟨by rfl, ?_⟩) (by assumption) ?_
  rotate_left
  · (intro w hSw; (try dsimp only at hSw); go_simp; (try with_reducible rfl))
  try simp only [Act.put, List.setIfInBounds_toArray, List.set_cons_zero, List.set_cons_succ]
  refine wpAnyH_ready (rs := [2]) (by kernel_rfl) (by simp) ?_
  refine AllReadyH.cons (o := ⟨some 48, _, _, _, _, _⟩) rfl (fun K hK => ?_) AllReadyH.nil
  go_simp
  first | (go_at_call 24; with_reducible refine (B0.out _).mono ?_; rintro e w' ⟨rfl, hb⟩) | (go_at_call 24; with_reducible refine (B1.out _).mono ?_; rintro e w' ⟨rfl, hb⟩) | (go_at_call 24; with_reducible refine (B2.out _).mono ?_; rintro e w' ⟨rfl, hb⟩)
  try go_wp2_with fail
  refine hK.out _ _ ?_ (fun hHeld => ?_)
  · exact keep8 ‹_› hb (by dsimp only; omega) (by dsimp only; omega) (by dsimp only; omega) (by dsimp only; omega) (by dsimp only; omega) (by dsimp only; omega) (by dsimp only; omega) (by dsimp only; omega)
  clear hK K
  try simp only [Act.put, List.setIfInBounds_toArray, List.set_cons_zero, List.set_cons_succ]
  refine wpAnyH_take (i := 3) (oi := ⟨some 49, _, _, _, _, _⟩) (v := ?_) rfl (by kernel_rfl) (by kernel_rfl) (by kernel_rfl) (fun _ _ _ h => h) (Or.inl ⟨by rfl, ?_⟩) (by assumption) ?_
  rotate_left
  · (intro w hSw; (try dsimp only at hSw); go_simp; (try with_reducible rfl))
  try simp only [Act.put, List.setIfInBounds_toArray, List.set_cons_zero, List.set_cons_succ]
  refine wpAnyH_take (i := 4) (oi := ⟨some 50, _, _, _, _, _⟩) (v := ?_) rfl (by kernel_rfl) (by kernel_rfl) (by kernel_rfl) (fun _ _ _ h => h) (Or.inl ⟨by rfl, ?_⟩) (by assumption) ?_
  rotate_left
  · (intro w hSw; (try dsimp only at hSw); go_simp; (try with_reducible rfl))
  try simp only [Act.put, List.setIfInBounds_toArray, List.set_cons_zero, List.set_cons_succ]
  refine wpAnyH_take (i := 5) (oi := ⟨some 51, _, _, _, _, _⟩) (v := ?_) rfl (by kernel_rfl) (by kernel_rfl) (by kernel_rfl) (fun _ _ _ h => h) (Or.inl ⟨by rfl, ?_⟩) (by assumption) ?_
  rotate_left
  · (intro w hSw; (try dsimp only at hSw); go_simp; (try with_reducible rfl))
  try simp only [Act.put, List.setIfInBounds_toArray, List.set_cons_zero, List.set_cons_succ]
  refine wpAnyH_take (i := 6) (oi := ⟨some 52, _, _, _, _, _⟩) (v := undef) rfl (by kernel_rfl) (by kernel_rfl) (by kernel_rfl) (fun _ _ _ h => h) (Or.inr ⟨by rfl, rfl⟩) (by assumption) ?_
  try simp only [Act.put, List.setIfInBounds_toArray, List.set_cons_zero, List.set_cons_succ]
  refine wpAnyH_take (i := 7) (oi := ⟨some 53, _, _, _, _, _⟩) (v := undef) rfl (by kernel_rfl) (by kernel_rfl) (by kernel_rfl) (fun _ _ _ h => h) (Or.inr ⟨by rfl, rfl⟩) (by assumption) ?_
  try simp only [Act.put, List.setIfInBounds_toArray, List.set_cons_zero, List.set_cons_succ]
  refine wpAnyH_ready (rs := [8]) (by kernel_rfl) (by simp) ?_
  refine AllReadyH.cons (o := ⟨some 54, _, _, _, _, _⟩) rfl (fun K hK => ?_) AllReadyH.nil
  go_simp
  refine hK.out _ _ ?_ (fun hHeld => ?_)
  · assumption
  clear hK K
  try simp only [Act.put, List.setIfInBounds_toArray, List.set_cons_zero, List.set_cons_succ]
  refine wpAnyH_take (i := 9) (oi := ⟨some 55, _, _, _, _, _⟩) (v := undef) rfl (by kernel_rfl) (by kernel_rfl) (by kernel_rfl) (fun _ _ _ h => h) (Or.inr ⟨by rfl, rfl⟩) (by assumption) ?_
  try simp only [Act.put, List.setIfInBounds_toArray, List.set_cons_zero, List.set_cons_succ]
  refine wpAnyH_take (i := 10) (oi := ⟨some 56, _, _, _, _, _⟩) (v := undef) rfl (by kernel_rfl) (by kernel_rfl) (by kernel_rfl) (fun _ _ _ h => h) (Or.inr ⟨by rfl, rfl⟩) (by assumption) ?_
  try simp only [Act.put, List.setIfInBounds_toArray, List.set_cons_zero, List.set_cons_succ]
  refine wpAnyH_take (i := 11) (oi := ⟨some 57, _, _, _, _, _⟩) (v := undef) rfl (by kernel_rfl) (by kernel_rfl) (by kernel_rfl) (fun _ _ _ h => h) (Or.inr ⟨by rfl, rfl⟩) (by assumption) ?_
  try simp only [Act.put, List.setIfInBounds_toArray, List.set_cons_zero, List.set_cons_succ]
  refine wpAnyH_ready (rs := [12]) (by kernel_rfl) (by simp) ?_
  refine AllReadyH.cons (o := ⟨some 58, _, _, _, _, _⟩) rfl (fun K hK => ?_) AllReadyH.nil
  go_simp
  refine hK.out _ _ ?_ (fun hHeld => ?_)
  · assumption
  clear hK K
  try simp only [Act.put, List.setIfInBounds_toArray, List.set_cons_zero, List.set_cons_succ]
  refine wpAnyH_take (i := 13) (oi := ⟨some 59, _, _, _, _, _⟩) (v := undef) rfl (by kernel_rfl) (by kernel_rfl) (by kernel_rfl) (fun _ _ _ h => h) (Or.inr ⟨by rfl, rfl⟩) (by assumption) ?_
  try simp only [Act.put, List.setIfInBounds_toArray, List.set_cons_zero, List.set_cons_succ]
  refine wpAnyH_take (i := 14) (oi := ⟨some 60, _, _, _, _, _⟩) (v := ?_) rfl (by kernel_rfl) (by kernel_rfl) (by kernel_rfl) (fun _ _ _ h => h) (Or.inl ⟨by rfl, ?_⟩) (by assumption) ?_
  rotate_left
  · (intro w hSw; (try dsimp only at hSw); go_simp; (try with_reducible rfl))
  try simp only [Act.put, List.setIfInBounds_toArray, List.set_cons_zero, List.set_cons_succ]
  refine wpAnyH_take (i := 15) (oi := ⟨some 61, _, _, _, _, _⟩) (v := ?_) rfl (by kernel_rfl) (by kernel_rfl) (by kernel_rfl) (fun _ _ _ h => h) (Or.inl ⟨by rfl, ?_⟩) (by assumption) ?_
  rotate_left
  · (intro w hSw; (try dsimp only at hSw); go_simp; (try with_reducible rfl))
  try simp only [Act.put, List.setIfInBounds_toArray, List.set_cons_zero, List.set_cons_succ]
  refine wpAnyH_take (i := 16) (oi := ⟨some 62, _, _, _, _, _⟩) (v := ?_) rfl (by kernel_rfl) (by kernel_rfl) (by kernel_rfl) (fun _ _ _ h => h) (Or.inl ⟨by rfl, ?_⟩) (by assumption) ?_
  rotate_left
  · (intro w hSw; (try dsimp only at hSw); go_simp; (try with_reducible rfl))
  try simp only [Act.put, List.setIfInBounds_toArray, List.set_cons_zero, List.set_cons_succ]
  refine wpAnyH_take (i := 17) (oi := ⟨some 63, _, _, _, _, _⟩) (v := ?_) rfl (by kernel_rfl) (by kernel_rfl) (by kernel_rfl) (fun _ _ _ h => h) (Or.inl ⟨by rfl, ?_⟩) (by assumption) ?_
  rotate_left
  · (intro w hSw; (try dsimp only at hSw); go_simp; (try with_reducible rfl))
  try simp only [Act.put, List.setIfInBounds_toArray, List.set_cons_zero, List.set_cons_succ]
  refine wpAnyH_take (i := 18) (oi := ⟨some 64, _, _, _, _, _⟩) (v := ?_) rfl (by kernel_rfl) (by kernel_rfl) (by kernel_rfl) (fun _ _ _ h => h) (Or.inl ⟨by rfl, ?_⟩) (by assumption) ?_
  rotate_left
  · (intro w hSw; (try dsimp only at hSw); go_simp; (try with_reducible rfl))
  try simp only [Act.put, List.setIfInBounds_toArray, List.set_cons_zero, List.set_cons_succ]
  refine wpAnyH_take (i := 19) (oi := ⟨some 65, _, _, _, _, _⟩) (v := ?_) rfl (by kernel_rfl) (by kernel_rfl) (by kernel_rfl) (fun _ _ _ h => h) (Or.inl ⟨by rfl, ?_⟩) (by assumption) ?_
  rotate_left
  · (intro w hSw; (try dsimp only at hSw); go_simp; (try with_reducible rfl))
  try simp only [Act.put, List.setIfInBounds_toArray, List.set_cons_zero, List.set_cons_succ]
  refine wpAnyH_take (i := 20) (oi := ⟨some 66, _, _, _, _, _⟩) (v := ?_) rfl (by kernel_rfl) (by kernel_rfl) (by kernel_rfl) (fun _ _ _ h => h) (Or.inl ⟨by rfl, ?_⟩) (by assumption) ?_
  rotate_left
  · (intro w hSw; (try dsimp only at hSw); go_simp; (try with_reducible rfl))
  try simp only [Act.put, List.setIfInBounds_toArray, List.set_cons_zero, List.set_cons_succ]
  refine wpAnyH_take (i := 21) (oi := ⟨some 67, _, _, _, _, _⟩) (v := ?_) rfl (by kernel_rfl) (by kernel_rfl) (by kernel_rfl) (fun _ _ _ h => h) (Or.inl ⟨by rfl, ?_⟩) (by assumption) ?_
  rotate_left
  · (intro w hSw; (try dsimp only at hSw); go_simp; (try with_reducible rfl))
  try simp only [Act.put, List.setIfInBounds_toArray, List.set_cons_zero, List.set_cons_succ]
  refine wpAnyH_take (i := 23) (oi := ⟨some 69, _, _, _, _, _⟩) (v := ?_) rfl (by kernel_rfl) (by kernel_rfl) (by kernel_rfl) (fun _ _ _ h => h) (Or.inl ⟨by rfl, ?_⟩) (by assumption) ?_
  rotate_left
  · (intro w hSw; (try dsimp only at hSw); go_simp; (try with_reducible rfl))
  try simp only [Act.put, List.setIfInBounds_toArray, List.set_cons_zero, List.set_cons_succ]
  refine wpAnyH_take (i := 24) (oi := ⟨some 70, _, _, _, _, _⟩) (v := ?_) rfl (by kernel_rfl) (by kernel_rfl) (by kernel_rfl) (fun _ _ _ h => h) (Or.inl ⟨by rfl, ?_⟩) (by assumption) ?_
  rotate_left
  · (intro w hSw; (try dsimp only at hSw); go_simp; (try with_reducible rfl))
  try simp only [Act.put, List.setIfInBounds_toArray, List.set_cons_zero, List.set_cons_succ]
  refine wpAnyH_ready (rs := [22]) (by kernel_rfl) (by simp) ?_
  refine AllReadyH.cons (o := ⟨some 68, _, _, _, _, _⟩) rfl (fun K hK => ?_) AllReadyH.nil
  go_simp
  first | (go_at_call 24; with_reducible refine (B0.out _).mono ?_; rintro e w' ⟨rfl, hb⟩) | (go_at_call 24; with_reducible refine (B1.out _).mono ?_; rintro e w' ⟨rfl, hb⟩) | (go_at_call 24; with_reducible refine (B2.out _).mono ?_; rintro e w' ⟨rfl, hb⟩)
  try go_wp2_with fail
  refine hK.out _ _ ?_ (fun hHeld => ?_)
  · exact keep8 ‹_› hb (by dsimp only; omega) (by dsimp only; omega) (by dsimp only; omega) (by dsimp only; omega) (by dsimp only; omega) (by dsimp only; omega) (by dsimp only; omega) (by dsimp only; omega)
  clear hK K
  try simp only [Act.put, List.setIfInBounds_toArray, List.set_cons_zero, List.set_cons_succ]
  refine wpAnyH_ready (rs := [25]) (by kernel_rfl) (by simp) ?_
  refine AllReadyH.cons (o := ⟨some 71, _, _, _, _, _⟩) rfl (fun K hK => ?_) AllReadyH.nil
  go_simp
  first | (go_at_call 24; with_reducible refine (B0.out _).mono ?_; rintro e w' ⟨rfl, hb⟩) | (go_at_call 24; with_reducible refine (B1.out _).mono ?_; rintro e w' ⟨rfl, hb⟩) | (go_at_call 24; with_reducible refine (B2.out _).mono ?_; rintro e w' ⟨rfl, hb⟩)
  try go_wp2_with fail
  refine hK.out _ _ ?_ (fun hHeld => ?_)
  · exact keep8 ‹_› hb (by dsimp only; omega) (by dsimp only; omega) (by dsimp only; omega) (by dsimp only; omega) (by dsimp only; omega) (by dsimp only; omega) (by dsimp only; omega) (by dsimp only; omega)
  clear hK K
  try simp only [Act.put, List.setIfInBounds_toArray, List.set_cons_zero, List.set_cons_succ]
  refine wpAnyH_take (i := 26) (oi := ⟨some 72, _, _, _, _, _⟩) (v := ?_) rfl (by kernel_rfl) (by kernel_rfl) (by kernel_rfl) (fun _ _ _ h => h) (Or.inl ⟨by rfl, ?_⟩) (by assumption) ?_
  rotate_left
  · (intro w hSw; (try dsimp only at hSw); go_simp; (try with_reducible rfl))
  try simp only [Act.put, List.setIfInBounds_toArray, List.set_cons_zero, List.set_cons_succ]
  refine wpAnyH_take (i := 27) (oi := ⟨some 73, _, _, _, _, _⟩) (v := ?_) rfl (by kernel_rfl) (by kernel_rfl) (by kernel_rfl) (fun _ _ _ h => h) (Or.inl ⟨by rfl, ?_⟩) (by assumption) ?_
  rotate_left
  · (intro w hSw; (try dsimp only at hSw); go_simp; (try with_reducible rfl))
  try simp only [Act.put, List.setIfInBounds_toArray, List.set_cons_zero, List.set_cons_succ]
  refine wpAnyH_take (i := 28) (oi := ⟨some 74, _, _, _, _, _⟩) (v := ?_) rfl (by kernel_rfl) (by kernel_rfl) (by kernel_rfl) (fun _ _ _ h => h) (Or.inl ⟨by rfl, ?_⟩) (by assumption) ?_
  rotate_left
  · (intro w hSw; (try dsimp only at hSw); go_simp; (try with_reducible rfl))
  try simp only [Act.put, List.setIfInBounds_toArray, List.set_cons_zero, List.set_cons_succ]
  refine wpAnyH_done (by kernel_rfl) ?_ _
  refine any_gen (fun z => z.cell? ⟨w.heap.size, 0, none⟩ = some (.int .i64 (x)) ∧ z.cell? ⟨w.heap.size, 1, none⟩ = some (.int .i64 (y)) ∧ z.cell? ⟨w.heap.size + 1, 0, none⟩ = some (.int .i64 (u)) ∧ z.cell? ⟨w.heap.size + 1, 1, none⟩ = some (.int .i64 (v)) ∧ z.cell? ⟨w.heap.size + 1 + 1, 0, none⟩ = some (.int .i64 (c)) ∧ z.cell? ⟨w.heap.size + 1 + 1, 1, none⟩ = some (.int .i64 (d)) ∧ z.cell? ⟨w.heap.size + 1 + 1 + 1, 0, none⟩ = some (.int .i64 (0)) ∧ z.cell? ⟨w.heap.size + 1 + 1 + 1, 1, none⟩ = some (.int .i64 (0)) ∧ w3.heap.size ≤ z.heap.size ∧ Below w.heap.size w z) (next8 ‹_ ∧ _› (by omega) hb0) ?_
  clear c1 c2 c3 c4 c5 c6 c7 c8 hb0
  rintro w5 ⟨c1, c2, c3, c4, c5, c6, c7, c8, hsz, hb0⟩
  replace hs := Nat.le_trans hs hsz
  clear hsz
  go_wp2_with fail
  refine (B1.out _).mono ?_
  rintro e w6 ⟨rfl, h6⟩
  obtain ⟨d1, d2, d3, d4, d5, d6, d7, d8, hsz, hb1⟩ := next8 (keep8 ⟨c1, c2, c3, c4, c5, c6, c7, c8, Below.refl _ _⟩ h6 (by dsimp only; omega) (by dsimp only; omega) (by dsimp only; omega) (by dsimp only; omega) (by dsimp only; omega) (by dsimp only; omega) (by dsimp only; omega) (by dsimp only; omega)) (by omega) hb0
  clear c1 c2 c3 c4 c5 c6 c7 c8 hb0 h6
  have c1 := d1
  clear d1
  have c2 := d2
  clear d2
  have c3 := d3
  clear d3
  have c4 := d4
  clear d4
  have c5 := d5
  clear d5
  have c6 := d6
  clear d6
  have c7 := d7
  clear d7
  have c8 := d8
  clear d8
  have hb0 := hb1
  clear hb1
  replace hs := Nat.le_trans hs hsz
  clear hsz
  go_wp2_with fail
  refine (B3.out _).mono ?_
  rintro e w7 ⟨rfl, h7⟩
  obtain ⟨d1, d2, d3, d4, d5, d6, d7, d8, hsz, hb1⟩ := next8 (keep8 ⟨c1, c2, c3, c4, c5, c6, c7, c8, Below.refl _ _⟩ h7 (by dsimp only; omega) (by dsimp only; omega) (by dsimp only; omega) (by dsimp only; omega) (by dsimp only; omega) (by dsimp only; omega) (by dsimp only; omega) (by dsimp only; omega)) (by omega) hb0
  clear c1 c2 c3 c4 c5 c6 c7 c8 hb0 h7
  have c1 := d1
  clear d1
  have c2 := d2
  clear d2
  have c3 := d3
  clear d3
  have c4 := d4
  clear d4
  have c5 := d5
  clear d5
  have c6 := d6
  clear d6
  have c7 := d7
  clear d7
  have c8 := d8
  clear d8
  have hb0 := hb1
  clear hb1
  replace hs := Nat.le_trans hs hsz
  clear hsz
  go_wp2_with fail
  refine (B4.out _).mono ?_
  rintro e w8 ⟨rfl, h8⟩
  obtain ⟨d1, d2, d3, d4, d5, d6, d7, d8, hsz, hb1⟩ := next8 (keep8 ⟨c1, c2, c3, c4, c5, c6, c7, c8, Below.refl _ _⟩ h8 (by dsimp only; omega) (by dsimp only; omega) (by dsimp only; omega) (by dsimp only; omega) (by dsimp only; omega) (by dsimp only; omega) (by dsimp only; omega) (by dsimp only; omega)) (by omega) hb0
  clear c1 c2 c3 c4 c5 c6 c7 c8 hb0 h8
  have c1 := d1
  clear d1
  have c2 := d2
  clear d2
  have c3 := d3
  clear d3
  have c4 := d4
  clear d4
  have c5 := d5
  clear d5
  have c6 := d6
  clear d6
  have c7 := d7
  clear d7
  have c8 := d8
  clear d8
  have hb0 := hb1
  clear hb1
  replace hs := Nat.le_trans hs hsz
  clear hsz
  go_wp2
  go_ret
  exact ⟨by first | rfl | simp, hb0⟩

theorem ord_n100 (x y u v c d : Int) (w : World) (na : allNear [(x, y), (u, v), (c, d)] = true) (h1 : ¬ (x = 0 ∧ y = 0)) (h2 : ¬ (u = 0 ∧ v = 0)) (h3 : ¬ (c = 0 ∧ d = 0)) (hc : (x * v - y * u == 0) = true) (hd : decide (0 < x * u + y * v) = false) (hb1 : beforeV x y u v = false) :
    Calls Try.prog 6 #[P2 x y, P2 u v, P2 c d] w fun e w' => e = .returned (.bool true) ∧ Below w.heap.size w w' := by
  obtain ⟨gx, gy, gu, gv, gc, gd⟩ := near_3 na
  have EQ1 := fun w => eq_pt x y 0 0 false (nz_eq h1) w
  have EQ2 := fun w => eq_pt u v 0 0 false (nz_eq h2) w
  have EQ3 := fun w => eq_pt c d 0 0 false (nz_eq h3) w
  have i0 := before_irr x y
  have s1 := hb1
  have s2 := before_other h1 h2 (show ¬ (crossN x y u v = 0 ∧ 0 < dotN x y u v) by unfold crossN dotN; simp at hc hd; omega)
  rw [s1] at s2
  obtain ⟨D, hD⟩ : ∃ D, x * v - y * u = D := ⟨_, rfl⟩
  obtain ⟨E, hE⟩ : ∃ E, x * u + y * v = E := ⟨_, rfl⟩
  rw [hD] at hc
  rw [hE] at hd
  have CR0 := fun w => r4cross_any x y u v w gx gy gu gv
  simp only [hD] at CR0
  have CR := Lib.hid CR0
  clear CR0
  have DT0 := fun w => r4dot_any x y u v w gx gy gu gv
  simp only [hE] at DT0
  have DT := Lib.hid DT0
  clear DT0
  have B00 := fun w => before_any x y x y w gx gy gx gy
  simp only [i0] at B00
  have B0 := Lib.hid B00
  clear B00
  have B10 := fun w => before_any x y u v w gx gy gu gv
  simp only [s1] at B10
  have B1 := Lib.hid B10
  clear B10
  have B20 := fun w => before_any u v x y w gu gv gx gy
  simp only [s2] at B20
  simp only [Bool.not_true, Bool.not_false] at B20
  have B2 := Lib.hid B20
  clear B20
  have NA := Lib.hid na
  clear na gx gy gu gv gc gd h1 h2 h3 i0 s1 s2 hD hE hb1
  go_enter Try.func6, Try.ntmps6
  go_wp2_with fail
  refine (near3_any _ x y u v c d true _ NA.out (by simp) (by first | simp | simp [go_sem]) (by first | simp | simp [go_sem]) (by first | simp | simp [go_sem]) (by first | simp | simp [go_sem]) (by first | simp | simp [go_sem]) (by first | simp | simp [go_sem])).mono ?_
  rintro e w1 ⟨rfl, h1⟩
  have z1 := h1.size
  simp at z1
  have hs : w.heap.size + 1 + 1 + 1 + 1 + 1 ≤ w1.heap.size := by omega
  have c1 : w1.cell? ⟨w.heap.size, 0, none⟩ = some (.int .i64 (x)) := (h1.cell (p := ⟨w.heap.size, 0, none⟩) (by simp; try omega)).trans (by first | simp | simp [go_sem])
  have c2 : w1.cell? ⟨w.heap.size, 1, none⟩ = some (.int .i64 (y)) := (h1.cell (p := ⟨w.heap.size, 1, none⟩) (by simp; try omega)).trans (by first | simp | simp [go_sem])
  have c3 : w1.cell? ⟨w.heap.size + 1, 0, none⟩ = some (.int .i64 (u)) := (h1.cell (p := ⟨w.heap.size + 1, 0, none⟩) (by simp; try omega)).trans (by first | simp | simp [go_sem])
  have c4 : w1.cell? ⟨w.heap.size + 1, 1, none⟩ = some (.int .i64 (v)) := (h1.cell (p := ⟨w.heap.size + 1, 1, none⟩) (by simp; try omega)).trans (by first | simp | simp [go_sem])
  have c5 : w1.cell? ⟨w.heap.size + 1 + 1, 0, none⟩ = some (.int .i64 (c)) := (h1.cell (p := ⟨w.heap.size + 1 + 1, 0, none⟩) (by simp; try omega)).trans (by first | simp | simp [go_sem])
  have c6 : w1.cell? ⟨w.heap.size + 1 + 1, 1, none⟩ = some (.int .i64 (d)) := (h1.cell (p := ⟨w.heap.size + 1 + 1, 1, none⟩) (by simp; try omega)).trans (by first | simp | simp [go_sem])
  have c7 : w1.cell? ⟨w.heap.size + 1 + 1 + 1, 0, none⟩ = some (.int .i64 (0)) := (h1.cell (p := ⟨w.heap.size + 1 + 1 + 1, 0, none⟩) (by simp; try omega)).trans (by first | simp | simp [go_sem])
  have c8 : w1.cell? ⟨w.heap.size + 1 + 1 + 1, 1, none⟩ = some (.int .i64 (0)) := (h1.cell (p := ⟨w.heap.size + 1 + 1 + 1, 1, none⟩) (by simp; try omega)).trans (by first | simp | simp [go_sem])
  have hb0 : Below w.heap.size w w1 := ((((((Below.refl _ _).alloc (by simp; try omega) _).alloc (by simp; try omega) _).alloc (by simp; try omega) _).alloc (by simp; try omega) _).alloc (by simp; try omega) _).trans (h1.mono (by simp; try omega))
  clear h1 z1
  go_wp2_with fail
  refine (shown_any _).mono ?_
  rintro e w2 ⟨rfl, h2⟩
  obtain ⟨d1, d2, d3, d4, d5, d6, d7, d8, hsz, hb1⟩ := next8 (keep8 ⟨c1, c2, c3, c4, c5, c6, c7, c8, Below.refl _ _⟩ h2 (by dsimp only; omega) (by dsimp only; omega) (by dsimp only; omega) (by dsimp only; omega) (by dsimp only; omega) (by dsimp only; omega) (by dsimp only; omega) (by dsimp only; omega)) (by omega) hb0
  clear c1 c2 c3 c4 c5 c6 c7 c8 hb0 h2
  have c1 := d1
  clear d1
  have c2 := d2
  clear d2
  have c3 := d3
  clear d3
  have c4 := d4
  clear d4
  have c5 := d5
  clear d5
  have c6 := d6
  clear d6
  have c7 := d7
  clear d7
  have c8 := d8
  clear d8
  have hb0 := hb1
  clear hb1
  replace hs := Nat.le_trans hs hsz
  clear hsz
  go_wp2_with fail
  refine (CR.out _).mono ?_
  rintro e w3 ⟨rfl, h3⟩
  obtain ⟨d1, d2, d3, d4, d5, d6, d7, d8, hsz, hb1⟩ := next8 (keep8 ⟨c1, c2, c3, c4, c5, c6, c7, c8, Below.refl _ _⟩ h3 (by dsimp only; omega) (by dsimp only; omega) (by dsimp only; omega) (by dsimp only; omega) (by dsimp only; omega) (by dsimp only; omega) (by dsimp only; omega) (by dsimp only; omega)) (by omega) hb0
  clear c1 c2 c3 c4 c5 c6 c7 c8 hb0 h3
  have c1 := d1
  clear d1
  have c2 := d2
  clear d2
  have c3 := d3
  clear d3
  have c4 := d4
  clear d4
  have c5 := d5
  clear d5
  have c6 := d6
  clear d6
  have c7 := d7
  clear d7
  have c8 := d8
  clear d8
  have hb0 := hb1
  clear hb1
  replace hs := Nat.le_trans hs hsz
  clear hsz
  go_wp2_with fail
  refine (DT.out _).mono ?_
  rintro e w4 ⟨rfl, h4⟩
  obtain ⟨d1, d2, d3, d4, d5, d6, d7, d8, hsz, hb1⟩ := next8 (keep8 ⟨c1, c2, c3, c4, c5, c6, c7, c8, Below.refl _ _⟩ h4 (by dsimp only; omega) (by dsimp only; omega) (by dsimp only; omega) (by dsimp only; omega) (by dsimp only; omega) (by dsimp only; omega) (by dsimp only; omega) (by dsimp only; omega)) (by omega) hb0
  clear c1 c2 c3 c4 c5 c6 c7 c8 hb0 h4
  have c1 := d1
  clear d1
  have c2 := d2
  clear d2
  have c3 := d3
  clear d3
  have c4 := d4
  clear d4
  have c5 := d5
  clear d5
  have c6 := d6
  clear d6
  have c7 := d7
  clear d7
  have c8 := d8
  clear d8
  have hb0 := hb1
  clear hb1
  replace hs := Nat.le_trans hs hsz
  clear hsz
  go_wp2_with fail
  refine wp_region_held_drew (S := fun w' => w'.cell? ⟨w.heap.size, 0, none⟩ = some (.int .i64 (x)) ∧ w'.cell? ⟨w.heap.size, 1, none⟩ = some (.int .i64 (y)) ∧ w'.cell? ⟨w.heap.size + 1, 0, none⟩ = some (.int .i64 (u)) ∧ w'.cell? ⟨w.heap.size + 1, 1, none⟩ = some (.int .i64 (v)) ∧ w'.cell? ⟨w.heap.size + 1 + 1, 0, none⟩ = some (.int .i64 (c)) ∧ w'.cell? ⟨w.heap.size + 1 + 1, 1, none⟩ = some (.int .i64 (d)) ∧ w'.cell? ⟨w.heap.size + 1 + 1 + 1, 0, none⟩ = some (.int .i64 (0)) ∧ w'.cell? ⟨w.heap.size + 1 + 1 + 1, 1, none⟩ = some (.int .i64 (0)) ∧ Below w4.heap.size w4 w') (by kernel_rfl) ⟨by simp [*], by simp [*], by simp [*], by simp [*], by simp [*], by simp [*], by simp [*], by simp [*], (Below.refl _ _).drew⟩ (fun hHeld => ?_)
  refine wpAnyH_take (i := 0) (oi := ⟨some 46, _, _, _, _, _⟩) (v := ?_) rfl (by kernel_rfl) (by kernel_rfl) (by kernel_rfl) (fun _ _ _ h => h) (Or.inl ⟨by rfl, ?_⟩) (by assumption) ?_
  rotate_left
  · (intro w hSw; (try dsimp only at hSw); go_simp; (try with_reducible rfl))
  try simp only [Act.put, List.setIfInBounds_toArray, List.set_cons_zero, List.set_cons_succ]
  refine wpAnyH_take (i := 1) (oi := ⟨some 47, _, _, _, _, _⟩) (v := ?_) rfl (by kernel_rfl) (by kernel_rfl) (by kernel_rfl) (fun _ _ _ h => h) (Or.inl ⟨by rfl, ?_⟩) (by assumption) ?_
  rotate_left
  · (intro w hSw; (try dsimp only at hSw); go_simp; (try with_reducible rfl))
  try simp only [Act.put, List.setIfInBounds_toArray, List.set_cons_zero, List.set_cons_succ]
  refine wpAnyH_ready (rs := [2]) (by kernel_rfl) (by simp) ?_
  refine AllReadyH.cons (o := ⟨some 48, _, _, _, _, _⟩) rfl (fun K hK => ?_) AllReadyH.nil
  go_simp
  first | (go_at_call 24; with_reducible refine (B0.out _).mono ?_; rintro e w' ⟨rfl, hb⟩) | (go_at_call 24; with_reducible refine (B1.out _).mono ?_; rintro e w' ⟨rfl, hb⟩) | (go_at_call 24; with_reducible refine (B2.out _).mono ?_; rintro e w' ⟨rfl, hb⟩)
  try go_wp2_with fail
  refine hK.out _ _ ?_ (fun hHeld => ?_)
  · exact keep8 ‹_› hb (by dsimp only; omega) (by dsimp only; omega) (by dsimp only; omega) (by dsimp only; omega) (by dsimp only; omega) (by dsimp only; omega) (by dsimp only; omega) (by dsimp only; omega)
  clear hK K
  try simp only [Act.put, List.setIfInBounds_toArray, List.set_cons_zero, List.set_cons_succ]
  refine wpAnyH_take (i := 3) (oi := ⟨some 49, _, _, _, _, _⟩) (v := ?_) rfl (by kernel_rfl) (by kernel_rfl) (by kernel_rfl) (fun _ _ _ h => h) (Or.inl ⟨by rfl, ?_⟩) (by assumption) ?_
  rotate_left
  · (intro w hSw; (try dsimp only at hSw); go_simp; (try with_reducible rfl))
  try simp only [Act.put, List.setIfInBounds_toArray, List.set_cons_zero, List.set_cons_succ]
  refine wpAnyH_take (i := 4) (oi := ⟨some 50, _, _, _, _, _⟩) (v := ?_) rfl (by kernel_rfl) (by kernel_rfl) (by kernel_rfl) (fun _ _ _ h => h) (Or.inl ⟨by rfl, ?_⟩) (by assumption) ?_
  rotate_left
  · (intro w hSw; (try dsimp only at hSw); go_simp; (try with_reducible rfl))
  try simp only [Act.put, List.setIfInBounds_toArray, List.set_cons_zero, List.set_cons_succ]
  refine wpAnyH_take (i := 5) (oi := ⟨some 51, _, _, _, _, _⟩) (v := ?_) rfl (by kernel_rfl) (by kernel_rfl) (by kernel_rfl) (fun _ _ _ h => h) (Or.inl ⟨by rfl, ?_⟩) (by assumption) ?_
  rotate_left
  · (intro w hSw; (try dsimp only at hSw); go_simp; (try with_reducible rfl))
  try simp only [Act.put, List.setIfInBounds_toArray, List.set_cons_zero, List.set_cons_succ]
  refine wpAnyH_take (i := 6) (oi := ⟨some 52, _, _, _, _, _⟩) (v := undef) rfl (by kernel_rfl) (by kernel_rfl) (by kernel_rfl) (fun _ _ _ h => h) (Or.inr ⟨by rfl, rfl⟩) (by assumption) ?_
  try simp only [Act.put, List.setIfInBounds_toArray, List.set_cons_zero, List.set_cons_succ]
  refine wpAnyH_take (i := 7) (oi := ⟨some 53, _, _, _, _, _⟩) (v := undef) rfl (by kernel_rfl) (by kernel_rfl) (by kernel_rfl) (fun _ _ _ h => h) (Or.inr ⟨by rfl, rfl⟩) (by assumption) ?_
  try simp only [Act.put, List.setIfInBounds_toArray, List.set_cons_zero, List.set_cons_succ]
  refine wpAnyH_ready (rs := [8]) (by kernel_rfl) (by simp) ?_
  refine AllReadyH.cons (o := ⟨some 54, _, _, _, _, _⟩) rfl (fun K hK => ?_) AllReadyH.nil
  go_simp
  refine hK.out _ _ ?_ (fun hHeld => ?_)
  · assumption
  clear hK K
  try simp only [Act.put, List.setIfInBounds_toArray, List.set_cons_zero, List.set_cons_succ]
  refine wpAnyH_take (i := 9) (oi := ⟨some 55, _, _, _, _, _⟩) (v := undef) rfl (by kernel_rfl) (by kernel_rfl) (by kernel_rfl) (fun _ _ _ h => h) (Or.inr ⟨by rfl, rfl⟩) (by assumption) ?_
  try simp only [Act.put, List.setIfInBounds_toArray, List.set_cons_zero, List.set_cons_succ]
  refine wpAnyH_take (i := 10) (oi := ⟨some 56, _, _, _, _, _⟩) (v := undef) rfl (by kernel_rfl) (by kernel_rfl) (by kernel_rfl) (fun _ _ _ h => h) (Or.inr ⟨by rfl, rfl⟩) (by assumption) ?_
  try simp only [Act.put, List.setIfInBounds_toArray, List.set_cons_zero, List.set_cons_succ]
  refine wpAnyH_take (i := 11) (oi := ⟨some 57, _, _, _, _, _⟩) (v := undef) rfl (by kernel_rfl) (by kernel_rfl) (by kernel_rfl) (fun _ _ _ h => h) (Or.inr ⟨by rfl, rfl⟩) (by assumption) ?_
  try simp only [Act.put, List.setIfInBounds_toArray, List.set_cons_zero, List.set_cons_succ]
  refine wpAnyH_ready (rs := [12]) (by kernel_rfl) (by simp) ?_
  refine AllReadyH.cons (o := ⟨some 58, _, _, _, _, _⟩) rfl (fun K hK => ?_) AllReadyH.nil
  go_simp
  refine hK.out _ _ ?_ (fun hHeld => ?_)
  · assumption
  clear hK K
  try simp only [Act.put, List.setIfInBounds_toArray, List.set_cons_zero, List.set_cons_succ]
  refine wpAnyH_take (i := 13) (oi := ⟨some 59, _, _, _, _, _⟩) (v := undef) rfl (by kernel_rfl) (by kernel_rfl) (by kernel_rfl) (fun _ _ _ h => h) (Or.inr ⟨by rfl, rfl⟩) (by assumption) ?_
  try simp only [Act.put, List.setIfInBounds_toArray, List.set_cons_zero, List.set_cons_succ]
  refine wpAnyH_take (i := 14) (oi := ⟨some 60, _, _, _, _, _⟩) (v := ?_) rfl (by kernel_rfl) (by kernel_rfl) (by kernel_rfl) (fun _ _ _ h => h) (Or.inl ⟨by rfl, ?_⟩) (by assumption) ?_
  rotate_left
  · (intro w hSw; (try dsimp only at hSw); go_simp; (try with_reducible rfl))
  try simp only [Act.put, List.setIfInBounds_toArray, List.set_cons_zero, List.set_cons_succ]
  refine wpAnyH_take (i := 15) (oi := ⟨some 61, _, _, _, _, _⟩) (v := ?_) rfl (by kernel_rfl) (by kernel_rfl) (by kernel_rfl) (fun _ _ _ h => h) (Or.inl ⟨by rfl, ?_⟩) (by assumption) ?_
  rotate_left
  · (intro w hSw; (try dsimp only at hSw); go_simp; (try with_reducible rfl))
  try simp only [Act.put, List.setIfInBounds_toArray, List.set_cons_zero, List.set_cons_succ]
  refine wpAnyH_take (i := 16) (oi := ⟨some 62, _, _, _, _, _⟩) (v := ?_) rfl (by kernel_rfl) (by kernel_rfl) (by kernel_rfl) (fun _ _ _ h => h) (Or.inl ⟨by rfl, ?_⟩) (by assumption) ?_
  rotate_left
  · (intro w hSw; (try dsimp only at hSw); go_simp; (try with_reducible rfl))
  try simp only [Act.put, List.setIfInBounds_toArray, List.set_cons_zero, List.set_cons_succ]
  refine wpAnyH_take (i := 17) (oi := ⟨some 63, _, _, _, _, _⟩) (v := ?_) rfl (by kernel_rfl) (by kernel_rfl) (by kernel_rfl) (fun _ _ _ h => h) (Or.inl ⟨by rfl, ?_⟩) (by assumption) ?_
  rotate_left
  · (intro w hSw; (try dsimp only at hSw); go_simp; (try with_reducible rfl))
  try simp only [Act.put, List.setIfInBounds_toArray, List.set_cons_zero, List.set_cons_succ]
  refine wpAnyH_take (i := 18) (oi := ⟨some 64, _, _, _, _, _⟩) (v := ?_) rfl (by kernel_rfl) (by kernel_rfl) (by kernel_rfl) (fun _ _ _ h => h) (Or.inl ⟨by rfl, ?_⟩) (by assumption) ?_
  rotate_left
  · (intro w hSw; (try dsimp only at hSw); go_simp; (try with_reducible rfl))
  try simp only [Act.put, List.setIfInBounds_toArray, List.set_cons_zero, List.set_cons_succ]
  refine wpAnyH_take (i := 19) (oi := ⟨some 65, _, _, _, _, _⟩) (v := ?_) rfl (by kernel_rfl) (by kernel_rfl) (by kernel_rfl) (fun _ _ _ h => h) (Or.inl ⟨by rfl, ?_⟩) (by assumption) ?_
  rotate_left
  · (intro w hSw; (try dsimp only at hSw); go_simp; (try with_reducible rfl))
  try simp only [Act.put, List.setIfInBounds_toArray, List.set_cons_zero, List.set_cons_succ]
  refine wpAnyH_take (i := 20) (oi := ⟨some 66, _, _, _, _, _⟩) (v := ?_) rfl (by kernel_rfl) (by kernel_rfl) (by kernel_rfl) (fun _ _ _ h => h) (Or.inl ⟨by rfl, ?_⟩) (by assumption) ?_
  rotate_left
  · (intro w hSw; (try dsimp only at hSw); go_simp; (try with_reducible rfl))
  try simp only [Act.put, List.setIfInBounds_toArray, List.set_cons_zero, List.set_cons_succ]
  refine wpAnyH_take (i := 21) (oi := ⟨some 67, _, _, _, _, _⟩) (v := ?_) rfl (by kernel_rfl) (by kernel_rfl) (by kernel_rfl) (fun _ _ _ h => h) (Or.inl ⟨by rfl, ?_⟩) (by assumption) ?_
  rotate_left
  · (intro w hSw; (try dsimp only at hSw); go_simp; (try with_reducible rfl))
  try simp only [Act.put, List.setIfInBounds_toArray, List.set_cons_zero, List.set_cons_succ]
  refine wpAnyH_take (i := 23) (oi := ⟨some 69, _, _, _, _, _⟩) (v := ?_) rfl (by kernel_rfl) (by kernel_rfl) (by kernel_rfl) (fun _ _ _ h => h) (Or.inl ⟨by rfl, ?_⟩) (by assumption) ?_
  rotate_left
  · (intro w hSw; (try dsimp only at hSw); go_simp; (try with_reducible rfl))
  try simp only [Act.put, List.setIfInBounds_toArray, List.set_cons_zero, List.set_cons_succ]
  refine wpAnyH_take (i := 24) (oi := ⟨some 70, _, _, _, _, _⟩) (v := ?_) rfl (by kernel_rfl) (by kernel_rfl) (by kernel_rfl) (fun _ _ _ h => h) (Or.inl ⟨by rfl, ?_⟩) (by assumption) ?_
  rotate_left
  · (intro w hSw; (try dsimp only at hSw); go_simp; (try with_reducible rfl))
  try simp only [Act.put, List.setIfInBounds_toArray, List.set_cons_zero, List.set_cons_succ]
  refine wpAnyH_ready (rs := [22]) (by kernel_rfl) (by simp) ?_
  refine AllReadyH.cons (o := ⟨some 68, _, _, _, _, _⟩) rfl (fun K hK => ?_) AllReadyH.nil
  go_simp
  first | (go_at_call 24; with_reducible refine (B0.out _).mono ?_; rintro e w' ⟨rfl, hb⟩) | (go_at_call 24; with_reducible refine (B1.out _).mono ?_; rintro e w' ⟨rfl, hb⟩) | (go_at_call 24; with_reducible refine (B2.out _).mono ?_; rintro e w' ⟨rfl, hb⟩)
  try go_wp2_with fail
  refine hK.out _ _ ?_ (fun hHeld => ?_)
  · exact keep8 ‹_› hb (by dsimp only; omega) (by dsimp only; omega) (by dsimp only; omega) (by dsimp only; omega) (by dsimp only; omega) (by dsimp only; omega) (by dsimp only; omega) (by dsimp only; omega)
  clear hK K
  try simp only [Act.put, List.setIfInBounds_toArray, List.set_cons_zero, List.set_cons_succ]
  refine wpAnyH_ready (rs := [25]) (by kernel_rfl) (by simp) ?_
  refine AllReadyH.cons (o := ⟨some 71, _, _, _, _, _⟩) rfl (fun K hK => ?_) AllReadyH.nil
  go_simp
  first | (go_at_call 24; with_reducible refine (B0.out _).mono ?_; rintro e w' ⟨rfl, hb⟩) | (go_at_call 24; with_reducible refine (B1.out _).mono ?_; rintro e w' ⟨rfl, hb⟩) | (go_at_call 24; with_reducible refine (B2.out _).mono ?_; rintro e w' ⟨rfl, hb⟩)
  try go_wp2_with fail
  refine hK.out _ _ ?_ (fun hHeld => ?_)
  · exact keep8 ‹_› hb (by dsimp only; omega) (by dsimp only; omega) (by dsimp only; omega) (by dsimp only; omega) (by dsimp only; omega) (by dsimp only; omega) (by dsimp only; omega) (by dsimp only; omega)
  clear hK K
  try simp only [Act.put, List.setIfInBounds_toArray, List.set_cons_zero, List.set_cons_succ]
  refine wpAnyH_take (i := 26) (oi := ⟨some 72, _, _, _, _, _⟩) (v := ?_) rfl (by kernel_rfl) (by kernel_rfl) (by kernel_rfl) (fun _ _ _ h => h) (Or.inl ⟨by rfl, ?_⟩) (by assumption) ?_
  rotate_left
  · (intro w hSw; (try dsimp only at hSw); go_simp; (try with_reducible rfl))
  try simp only [Act.put, List.setIfInBounds_toArray, List.set_cons_zero, List.set_cons_succ]
  refine wpAnyH_take (i := 27) (oi := ⟨some 73, _, _, _, _, _⟩) (v := ?_) rfl (by kernel_rfl) (by kernel_rfl) (by kernel_rfl) (fun _ _ _ h => h) (Or.inl ⟨by rfl, ?_⟩) (by assumption) ?_
  rotate_left
  · (intro w hSw; (try dsimp only at hSw); go_simp; (try with_reducible rfl))
  try simp only [Act.put, List.setIfInBounds_toArray, List.set_cons_zero, List.set_cons_succ]
  refine wpAnyH_take (i := 28) (oi := ⟨some 74, _, _, _, _, _⟩) (v := ?_) rfl (by kernel_rfl) (by kernel_rfl) (by kernel_rfl) (fun _ _ _ h => h) (Or.inl ⟨by rfl, ?_⟩) (by assumption) ?_
  rotate_left
  · (intro w hSw; (try dsimp only at hSw); go_simp; (try with_reducible rfl))
  try simp only [Act.put, List.setIfInBounds_toArray, List.set_cons_zero, List.set_cons_succ]
  refine wpAnyH_done (by kernel_rfl) ?_ _
  refine any_gen (fun z => z.cell? ⟨w.heap.size, 0, none⟩ = some (.int .i64 (x)) ∧ z.cell? ⟨w.heap.size, 1, none⟩ = some (.int .i64 (y)) ∧ z.cell? ⟨w.heap.size + 1, 0, none⟩ = some (.int .i64 (u)) ∧ z.cell? ⟨w.heap.size + 1, 1, none⟩ = some (.int .i64 (v)) ∧ z.cell? ⟨w.heap.size + 1 + 1, 0, none⟩ = some (.int .i64 (c)) ∧ z.cell? ⟨w.heap.size + 1 + 1, 1, none⟩ = some (.int .i64 (d)) ∧ z.cell? ⟨w.heap.size + 1 + 1 + 1, 0, none⟩ = some (.int .i64 (0)) ∧ z.cell? ⟨w.heap.size + 1 + 1 + 1, 1, none⟩ = some (.int .i64 (0)) ∧ w4.heap.size ≤ z.heap.size ∧ Below w.heap.size w z) (next8 ‹_ ∧ _› (by omega) hb0) ?_
  clear c1 c2 c3 c4 c5 c6 c7 c8 hb0
  rintro w5 ⟨c1, c2, c3, c4, c5, c6, c7, c8, hsz, hb0⟩
  replace hs := Nat.le_trans hs hsz
  clear hsz
  go_wp2_with fail
  refine (B1.out _).mono ?_
  rintro e w6 ⟨rfl, h6⟩
  obtain ⟨d1, d2, d3, d4, d5, d6, d7, d8, hsz, hb1⟩ := next8 (keep8 ⟨c1, c2, c3, c4, c5, c6, c7, c8, Below.refl _ _⟩ h6 (by dsimp only; omega) (by dsimp only; omega) (by dsimp only; omega) (by dsimp only; omega) (by dsimp only; omega) (by dsimp only; omega) (by dsimp only; omega) (by dsimp only; omega)) (by omega) hb0
  clear c1 c2 c3 c4 c5 c6 c7 c8 hb0 h6
  have c1 := d1
  clear d1
  have c2 := d2
  clear d2
  have c3 := d3
  clear d3
  have c4 := d4
  clear d4
  have c5 := d5
  clear d5
  have c6 := d6
  clear d6
  have c7 := d7
  clear d7
  have c8 := d8
  clear d8
  have hb0 := hb1
  clear hb1
  replace hs := Nat.le_trans hs hsz
  clear hsz
  go_wp2
  go_ret
  exact ⟨by first | rfl | simp, hb0⟩

theorem ord_n110 (x y u v c d : Int) (w : World) (na : allNear [(x, y), (u, v), (c, d)] = true) (h1 : ¬ (x = 0 ∧ y = 0)) (h2 : ¬ (u = 0 ∧ v = 0)) (h3 : ¬ (c = 0 ∧ d = 0)) (hc : (x * v - y * u == 0) = true) (hd : decide (0 < x * u + y * v) = false) (hb1 : beforeV x y u v = true) (hb2 : beforeV u v c d = false) :
    Calls Try.prog 6 #[P2 x y, P2 u v, P2 c d] w fun e w' => e = .returned (.bool true) ∧ Below w.heap.size w w' := by
  obtain ⟨gx, gy, gu, gv, gc, gd⟩ := near_3 na
  have EQ1 := fun w => eq_pt x y 0 0 false (nz_eq h1) w
  have EQ2 := fun w => eq_pt u v 0 0 false (nz_eq h2) w
  have EQ3 := fun w => eq_pt c d 0 0 false (nz_eq h3) w
  have i0 := before_irr x y
  have s1 := hb1
  have s2 := before_other h1 h2 (show ¬ (crossN x y u v = 0 ∧ 0 < dotN x y u v) by unfold crossN dotN; simp at hc hd; omega)
  rw [s1] at s2
  obtain ⟨D, hD⟩ : ∃ D, x * v - y * u = D := ⟨_, rfl⟩
  obtain ⟨E, hE⟩ : ∃ E, x * u + y * v = E := ⟨_, rfl⟩
  rw [hD] at hc
  rw [hE] at hd
  have CR0 := fun w => r4cross_any x y u v w gx gy gu gv
  simp only [hD] at CR0
  have CR := Lib.hid CR0
  clear CR0
  have DT0 := fun w => r4dot_any x y u v w gx gy gu gv
  simp only [hE] at DT0
  have DT := Lib.hid DT0
  clear DT0
  have B00 := fun w => before_any x y x y w gx gy gx gy
  simp only [i0] at B00
  have B0 := Lib.hid B00
  clear B00
  have B10 := fun w => before_any x y u v w gx gy gu gv
  simp only [s1] at B10
  have B1 := Lib.hid B10
  clear B10
  have B20 := fun w => before_any u v x y w gu gv gx gy
  simp only [s2] at B20
  simp only [Bool.not_true, Bool.not_false] at B20
  have B2 := Lib.hid B20
  clear B20
  have B30 := fun w => before_any u v c d w gu gv gc gd
  simp only [hb2] at B30
  have B3 := Lib.hid B30
  clear B30
  have NA := Lib.hid na
  clear na gx gy gu gv gc gd h1 h2 h3 i0 s1 s2 hD hE hb1 hb2
  go_enter Try.func6, Try.ntmps6
  go_wp2_with fail
  refine (near3_any _ x y u v c d true _ NA.out (by simp) (by first | simp | simp [go_sem]) (by first | simp | simp [go_sem]) (by first | simp | simp [go_sem]) (by first | simp | simp [go_sem]) (by first | simp | simp [go_sem]) (by first | simp | simp [go_sem])).mono ?_
  rintro e w1 ⟨rfl, h1⟩
  have z1 := h1.size
  simp at z1
  have hs : w.heap.size + 1 + 1 + 1 + 1 + 1 ≤ w1.heap.size := by omega
  have c1 : w1.cell? ⟨w.heap.size, 0, none⟩ = some (.int .i64 (x)) := (h1.cell (p := ⟨w.heap.size, 0, none⟩) (by simp; try omega)).trans (by first | simp | simp [go_sem])
  have c2 : w1.cell? ⟨w.heap.size, 1, none⟩ = some (.int .i64 (y)) := (h1.cell (p := ⟨w.heap.size, 1, none⟩) (by simp; try omega)).trans (by first | simp | simp [go_sem])
  have c3 : w1.cell? ⟨w.heap.size + 1, 0, none⟩ = some (.int .i64 (u)) := (h1.cell (p := ⟨w.heap.size + 1, 0, none⟩) (by simp; try omega)).trans (by first | simp | simp [go_sem])
  have c4 : w1.cell? ⟨w.heap.size + 1, 1, none⟩ = some (.int .i64 (v)) := (h1.cell (p := ⟨w.heap.size + 1, 1, none⟩) (by simp; try omega)).trans (by first | simp | simp [go_sem])
  have c5 : w1.cell? ⟨w.heap.size + 1 + 1, 0, none⟩ = some (.int .i64 (c)) := (h1.cell (p := ⟨w.heap.size + 1 + 1, 0, none⟩) (by simp; try omega)).trans (by first | simp | simp [go_sem])
  have c6 : w1.cell? ⟨w.heap.size + 1 + 1, 1, none⟩ = some (.int .i64 (d)) := (h1.cell (p := ⟨w.heap.size + 1 + 1, 1, none⟩) (by simp; try omega)).trans (by first | simp | simp [go_sem])
  have c7 : w1.cell? ⟨w.heap.size + 1 + 1 + 1, 0, none⟩ = some (.int .i64 (0)) := (h1.cell (p := ⟨w.heap.size + 1 + 1 + 1, 0, none⟩) (by simp; try omega)).trans (by first | simp | simp [go_sem])
  have c8 : w1.cell? ⟨w.heap.size + 1 + 1 + 1, 1, none⟩ = some (.int .i64 (0)) := (h1.cell (p := ⟨w.heap.size + 1 + 1 + 1, 1, none⟩) (by simp; try omega)).trans (by first | simp | simp [go_sem])
  have hb0 : Below w.heap.size w w1 := ((((((Below.refl _ _).alloc (by simp; try omega) _).alloc (by simp; try omega) _).alloc (by simp; try omega) _).alloc (by simp; try omega) _).alloc (by simp; try omega) _).trans (h1.mono (by simp; try omega))
  clear h1 z1
  go_wp2_with fail
  refine (shown_any _).mono ?_
  rintro e w2 ⟨rfl, h2⟩
  obtain ⟨d1, d2, d3, d4, d5, d6, d7, d8, hsz, hb1⟩ := next8 (keep8 ⟨c1, c2, c3, c4, c5, c6, c7, c8, Below.refl _ _⟩ h2 (by dsimp only; omega) (by dsimp only; omega) (by dsimp only; omega) (by dsimp only; omega) (by dsimp only; omega) (by dsimp only; omega) (by dsimp only; omega) (by dsimp only; omega)) (by omega) hb0
  clear c1 c2 c3 c4 c5 c6 c7 c8 hb0 h2
  have c1 := d1
  clear d1
  have c2 := d2
  clear d2
  have c3 := d3
  clear d3
  have c4 := d4
  clear d4
  have c5 := d5
  clear d5
  have c6 := d6
  clear d6
  have c7 := d7
  clear d7
  have c8 := d8
  clear d8
  have hb0 := hb1
  clear hb1
  replace hs := Nat.le_trans hs hsz
  clear hsz
  go_wp2_with fail
  refine (CR.out _).mono ?_
  rintro e w3 ⟨rfl, h3⟩
  obtain ⟨d1, d2, d3, d4, d5, d6, d7, d8, hsz, hb1⟩ := next8 (keep8 ⟨c1, c2, c3, c4, c5, c6, c7, c8, Below.refl _ _⟩ h3 (by dsimp only; omega) (by dsimp only; omega) (by dsimp only; omega) (by dsimp only; omega) (by dsimp only; omega) (by dsimp only; omega) (by dsimp only; omega) (by dsimp only; omega)) (by omega) hb0
  clear c1 c2 c3 c4 c5 c6 c7 c8 hb0 h3
  have c1 := d1
  clear d1
  have c2 := d2
  clear d2
  have c3 := d3
  clear d3
  have c4 := d4
  clear d4
  have c5 := d5
  clear d5
  have c6 := d6
  clear d6
  have c7 := d7
  clear d7
  have c8 := d8
  clear d8
  have hb0 := hb1
  clear hb1
  replace hs := Nat.le_trans hs hsz
  clear hsz
  go_wp2_with fail
  refine (DT.out _).mono ?_
  rintro e w4 ⟨rfl, h4⟩
  obtain ⟨d1, d2, d3, d4, d5, d6, d7, d8, hsz, hb1⟩ := next8 (keep8 ⟨c1, c2, c3, c4, c5, c6, c7, c8, Below.refl _ _⟩ h4 (by dsimp only; omega) (by dsimp only; omega) (by dsimp only; omega) (by dsimp only; omega) (by dsimp only; omega) (by dsimp only; omega) (by dsimp only; omega) (by dsimp only; omega)) (by omega) hb0
  clear c1 c2 c3 c4 c5 c6 c7 c8 hb0 h4
  have c1 := d1
  clear d1
  have c2 := d2
  clear d2
  have c3 := d3
  clear d3
  have c4 := d4
  clear d4
  have c5 := d5
  clear d5
  have c6 := d6
  clear d6
  have c7 := d7
  clear d7
  have c8 := d8
  clear d8
  have hb0 := hb1
  clear hb1
  replace hs := Nat.le_trans hs hsz
  clear hsz
  go_wp2_with fail
  refine wp_region_held_drew (S := fun w' => w'.cell? ⟨w.heap.size, 0, none⟩ = some (.int .i64 (x)) ∧ w'.cell? ⟨w.heap.size, 1, none⟩ = some (.int .i64 (y)) ∧ w'.cell? ⟨w.heap.size + 1, 0, none⟩ = some (.int .i64 (u)) ∧ w'.cell? ⟨w.heap.size + 1, 1, none⟩ = some (.int .i64 (v)) ∧ w'.cell? ⟨w.heap.size + 1 + 1, 0, none⟩ = some (.int .i64 (c)) ∧ w'.cell? ⟨w.heap.size + 1 + 1, 1, none⟩ = some (.int .i64 (d)) ∧ w'.cell? ⟨w.heap.size + 1 + 1 + 1, 0, none⟩ = some (.int .i64 (0)) ∧ w'.cell? ⟨w.heap.size + 1 + 1 + 1, 1, none⟩ = some (.int .i64 (0)) ∧ Below w4.heap.size w4 w') (by kernel_rfl) ⟨by simp [*], by simp [*], by simp [*], by simp [*], by simp [*], by simp [*], by simp [*], by simp [*], (Below.refl _ _).drew⟩ (fun hHeld => ?_)
  refine wpAnyH_take (i := 0) (oi := ⟨some 46, _, _, _, _, _⟩) (v := ?_) rfl (by kernel_rfl) (by kernel_rfl) (by kernel_rfl) (fun _ _ _ h => h) (Or.inl ⟨by rfl, ?_⟩) (by assumption) ?_
  rotate_left
  · (intro w hSw; (try dsimp only at hSw); go_simp; (try with_reducible rfl))
  try simp only [Act.put, List.setIfInBounds_toArray, List.set_cons_zero, List.set_cons_succ]
  refine wpAnyH_take (i := 1) (oi := ⟨some 47, _, _, _, _, _⟩) (v := ?_) rfl (by kernel_rfl) (by kernel_rfl) (by kernel_rfl) (fun _ _ _ h => h) (Or.inl ⟨by rfl, ?_⟩) (by assumption) ?_
  rotate_left
  · (intro w hSw; (try dsimp only at hSw); go_simp; (try with_reducible rfl))
  try simp only [Act.put, List.setIfInBounds_toArray, List.set_cons_zero, List.set_cons_succ]
  refine wpAnyH_ready (rs := [2]) (by kernel_rfl) (by simp) ?_
  refine AllReadyH.cons (o := ⟨some 48, _, _, _, _, _⟩) rfl (fun K hK => ?_) AllReadyH.nil
  go_simp
  first | (go_at_call 24; with_reducible refine (B0.out _).mono ?_; rintro e w' ⟨rfl, hb⟩) | (go_at_call 24; with_reducible refine (B1.out _).mono ?_; rintro e w' ⟨rfl, hb⟩) | (go_at_call 24; with_reducible refine (B2.out _).mono ?_; rintro e w' ⟨rfl, hb⟩)
  try go_wp2_with fail
  refine hK.out _ _ ?_ (fun hHeld => ?_)
  · exact keep8 ‹_› hb (by dsimp only; omega) (by dsimp only; omega) (by dsimp only; omega) (by dsimp only; omega) (by dsimp only; omega) (by dsimp only; omega) (by dsimp only; omega) (by dsimp only; omega)
  clear hK K
  try simp only [Act.put, List.setIfInBounds_toArray, List.set_cons_zero, List.set_cons_succ]
  refine wpAnyH_take (i := 3) (oi := ⟨some 49, _, _, _, _, _⟩) (v := ?_) rfl (by kernel_rfl) (by kernel_rfl) (by kernel_rfl) (fun _ _ _ h => h) (Or.inl ⟨by rfl, ?_⟩) (by assumption) ?_
  rotate_left
  · (intro w hSw; (try dsimp only at hSw); go_simp; (try with_reducible rfl))
  try simp only [Act.put, List.setIfInBounds_toArray, List.set_cons_zero, List.set_cons_succ]
  refine wpAnyH_take (i := 4) (oi := ⟨some 50, _, _, _, _, _⟩) (v := ?_) rfl (by kernel_rfl) (by kernel_rfl) (by kernel_rfl) (fun _ _ _ h => h) (Or.inl ⟨by rfl, ?_⟩) (by assumption) ?_
  rotate_left
  · (intro w hSw; (try dsimp only at hSw); go_simp; (try with_reducible rfl))
  try simp only [Act.put, List.setIfInBounds_toArray, List.set_cons_zero, List.set_cons_succ]
  refine wpAnyH_take (i := 5) (oi := ⟨some 51, _, _, _, _, _⟩) (v := ?_) rfl (by kernel_rfl) (by kernel_rfl) (by kernel_rfl) (fun _ _ _ h => h) (Or.inl ⟨by rfl, ?_⟩) (by assumption) ?_
  rotate_left
  · (intro w hSw; (try dsimp only at hSw); go_simp; (try with_reducible rfl))
  try simp only [Act.put, List.setIfInBounds_toArray, List.set_cons_zero, List.set_cons_succ]
  refine wpAnyH_take (i := 6) (oi := ⟨some 52, _, _, _, _, _⟩) (v := undef) rfl (by kernel_rfl) (by kernel_rfl) (by kernel_rfl) (fun _ _ _ h => h) (Or.inr ⟨by rfl, rfl⟩) (by assumption) ?_
  try simp only [Act.put, List.setIfInBounds_toArray, List.set_cons_zero, List.set_cons_succ]
  refine wpAnyH_take (i := 7) (oi := ⟨some 53, _, _, _, _, _⟩) (v := undef) rfl (by kernel_rfl) (by kernel_rfl) (by kernel_rfl) (fun _ _ _ h => h) (Or.inr ⟨by rfl, rfl⟩) (by assumption) ?_
  try simp only [Act.put, List.setIfInBounds_toArray, List.set_cons_zero, List.set_cons_succ]
  refine wpAnyH_ready (rs := [8]) (by kernel_rfl) (by simp) ?_
  refine AllReadyH.cons (o := ⟨some 54, _, _, _, _, _⟩) rfl (fun K hK => ?_) AllReadyH.nil
  go_simp
  refine hK.out _ _ ?_ (fun hHeld => ?_)
  · assumption
  clear hK K
  try simp only [Act.put, List.setIfInBounds_toArray, List.set_cons_zero, List.set_cons_succ]
  refine wpAnyH_take (i := 9) (oi := ⟨some 55, _, _, _, _, _⟩) (v := undef) rfl (by kernel_rfl) (by kernel_rfl) (by kernel_rfl) (fun _ _ _ h => h) (Or.inr ⟨by rfl, rfl⟩) (by assumption) ?_
  try simp only [Act.put, List.setIfInBounds_toArray, List.set_cons_zero, List.set_cons_succ]
  refine wpAnyH_take (i := 10) (oi := ⟨some 56, _, _, _, _, _⟩) (v := undef) rfl (by kernel_rfl) (by kernel_rfl) (by kernel_rfl) (fun _ _ _ h => h) (Or.inr ⟨by rfl, rfl⟩) (by assumption) ?_
  try simp only [Act.put, List.setIfInBounds_toArray, List.set_cons_zero, List.set_cons_succ]
  refine wpAnyH_take (i := 11) (oi := ⟨some 57, _, _, _, _, _⟩) (v := undef) rfl (by kernel_rfl) (by kernel_rfl) (by kernel_rfl) (fun _ _ _ h => h) (Or.inr ⟨by rfl, rfl⟩) (by assumption) ?_
  try simp only [Act.put, List.setIfInBounds_toArray, List.set_cons_zero, List.set_cons_succ]
  refine wpAnyH_ready (rs := [12]) (by kernel_rfl) (by simp) ?_
  refine AllReadyH.cons (o := ⟨some 58, _, _, _, _, _⟩) rfl (fun K hK => ?_) AllReadyH.nil
  go_simp
  refine hK.out _ _ ?_ (fun hHeld => ?_)
  · assumption
  clear hK K
  try simp only [Act.put, List.setIfInBounds_toArray, List.set_cons_zero, List.set_cons_succ]
  refine wpAnyH_take (i := 13) (oi := ⟨some 59, _, _, _, _, _⟩) (v := undef) rfl (by kernel_rfl) (by kernel_rfl) (by kernel_rfl) (fun _ _ _ h => h) (Or.inr ⟨by rfl, rfl⟩) (by assumption) ?_
  try simp only [Act.put, List.setIfInBounds_toArray, List.set_cons_zero, List.set_cons_succ]
  refine wpAnyH_take (i := 14) (oi := ⟨some 60, _, _, _, _, _⟩) (v := ?_) rfl (by kernel_rfl) (by kernel_rfl) (by kernel_rfl) (fun _ _ _ h => h) (Or.inl ⟨by rfl, ?_⟩) (by assumption) ?_
  rotate_left
  · (intro w hSw; (try dsimp only at hSw); go_simp; (try with_reducible rfl))
  try simp only [Act.put, List.setIfInBounds_toArray, List.set_cons_zero, List.set_cons_succ]
  refine wpAnyH_take (i := 15) (oi := ⟨some 61, _, _, _, _, _⟩) (v := ?_) rfl (by kernel_rfl) (by kernel_rfl) (by kernel_rfl) (fun _ _ _ h => h) (Or.inl ⟨by rfl, ?_⟩) (by assumption) ?_
  rotate_left
  · (intro w hSw; (try dsimp only at hSw); go_simp; (try with_reducible rfl))
  try simp only [Act.put, List.setIfInBounds_toArray, List.set_cons_zero, List.set_cons_succ]
  refine wpAnyH_take (i := 16) (oi := ⟨some 62, _, _, _, _, _⟩) (v := ?_) rfl (by kernel_rfl) (by kernel_rfl) (by kernel_rfl) (fun _ _ _ h => h) (Or.inl ⟨by rfl, ?_⟩) (by assumption) ?_
  rotate_left
  · (intro w hSw; (try dsimp only at hSw); go_simp; (try with_reducible rfl))
  try simp only [Act.put, List.setIfInBounds_toArray, List.set_cons_zero, List.set_cons_succ]
  refine wpAnyH_take (i := 17) (oi := ⟨some 63, _, _, _, _, _⟩) (v := ?_) rfl (by kernel_rfl) (by kernel_rfl) (by kernel_rfl) (fun _ _ _ h => h) (Or.inl ⟨by rfl, ?_⟩) (by assumption) ?_
  rotate_left
  · (intro w hSw; (try dsimp only at hSw); go_simp; (try with_reducible rfl))
  try simp only [Act.put, List.setIfInBounds_toArray, List.set_cons_zero, List.set_cons_succ]
  refine wpAnyH_take (i := 18) (oi := ⟨some 64, _, _, _, _, _⟩) (v := ?_) rfl (by kernel_rfl) (by kernel_rfl) (by kernel_rfl) (fun _ _ _ h => h) (Or.inl ⟨by rfl, ?_⟩) (by assumption) ?_
  rotate_left
  · (intro w hSw; (try dsimp only at hSw); go_simp; (try with_reducible rfl))
  try simp only [Act.put, List.setIfInBounds_toArray, List.set_cons_zero, List.set_cons_succ]
  refine wpAnyH_take (i := 19) (oi := ⟨some 65, _, _, _, _, _⟩) (v := ?_) rfl (by kernel_rfl) (by kernel_rfl) (by kernel_rfl) (fun _ _ _ h => h) (Or.inl ⟨by rfl, ?_⟩) (by assumption) ?_
  rotate_left
  · (intro w hSw; (try dsimp only at hSw); go_simp; (try with_reducible rfl))
  try simp only [Act.put, List.setIfInBounds_toArray, List.set_cons_zero, List.set_cons_succ]
  refine wpAnyH_take (i := 20) (oi := ⟨some 66, _, _, _, _, _⟩) (v := ?_) rfl (by kernel_rfl) (by kernel_rfl) (by kernel_rfl) (fun _ _ _ h => h) (Or.inl ⟨by rfl, ?_⟩) (by assumption) ?_
  rotate_left
  · (intro w hSw; (try dsimp only at hSw); go_simp; (try with_reducible rfl))
  try simp only [Act.put, List.setIfInBounds_toArray, List.set_cons_zero, List.set_cons_succ]
  refine wpAnyH_take (i := 21) (oi := ⟨some 67, _, _, _, _, _⟩) (v := ?_) rfl (by kernel_rfl) (by kernel_rfl) (by kernel_rfl) (fun _ _ _ h => h) (Or.inl ⟨by rfl, ?_⟩) (by assumption) ?_
  rotate_left
  · (intro w hSw; (try dsimp only at hSw); go_simp; (try with_reducible rfl))
  try simp only [Act.put, List.setIfInBounds_toArray, List.set_cons_zero, List.set_cons_succ]
  refine wpAnyH_take (i := 23) (oi := ⟨some 69, _, _, _, _, _⟩) (v := ?_) rfl (by kernel_rfl) (by kernel_rfl) (by kernel_rfl) (fun _ _ _ h => h) (Or.inl ⟨by rfl, ?_⟩) (by assumption) ?_
  rotate_left
  · (intro w hSw; (try dsimp only at hSw); go_simp; (try with_reducible rfl))
  try simp only [Act.put, List.setIfInBounds_toArray, List.set_cons_zero, List.set_cons_succ]
  refine wpAnyH_take (i := 24) (oi := ⟨some 70, _, _, _, _, _⟩) (v := ?_) rfl (by kernel_rfl) (by kernel_rfl) (by kernel_rfl) (fun _ _ _ h => h) (Or.inl ⟨by rfl, ?_⟩) (by assumption) ?_
  rotate_left
  · (intro w hSw; (try dsimp only at hSw); go_simp; (try with_reducible rfl))
  try simp only [Act.put, List.setIfInBounds_toArray, List.set_cons_zero, List.set_cons_succ]
  refine wpAnyH_ready (rs := [22]) (by kernel_rfl) (by simp) ?_
  refine AllReadyH.cons (o := ⟨some 68, _, _, _, _, _⟩) rfl (fun K hK => ?_) AllReadyH.nil
  go_simp
  first | (go_at_call 24; with_reducible refine (B0.out _).mono ?_; rintro e w' ⟨rfl, hb⟩) | (go_at_call 24; with_reducible refine (B1.out _).mono ?_; rintro e w' ⟨rfl, hb⟩) | (go_at_call 24; with_reducible refine (B2.out _).mono ?_; rintro e w' ⟨rfl, hb⟩)
  try go_wp2_with fail
  refine hK.out _ _ ?_ (fun hHeld => ?_)
  · exact keep8 ‹_› hb (by dsimp only; omega) (by dsimp only; omega) (by dsimp only; omega) (by dsimp only; omega) (by dsimp only; omega) (by dsimp only; omega) (by dsimp only; omega) (by dsimp only; omega)
  clear hK K
  try simp only [Act.put, List.setIfInBounds_toArray, List.set_cons_zero, List.set_cons_succ]
  refine wpAnyH_ready (rs := [25]) (by kernel_rfl) (by simp) ?_
  refine AllReadyH.cons (o := ⟨some 71, _, _, _, _, _⟩) rfl (fun K hK => ?_) AllReadyH.nil
  go_simp
  first | (go_at_call 24; with_reducible refine (B0.out _).mono ?_; rintro e w' ⟨rfl, hb⟩) | (go_at_call 24; with_reducible refine (B1.out _).mono ?_; rintro e w' ⟨rfl, hb⟩) | (go_at_call 24; with_reducible refine (B2.out _).mono ?_; rintro e w' ⟨rfl, hb⟩)
  try go_wp2_with fail
  refine hK.out _ _ ?_ (fun hHeld => ?_)
  · exact keep8 ‹_› hb (by dsimp only; omega) (by dsimp only; omega) (by dsimp only; omega) (by dsimp only; omega) (by dsimp only; omega) (by dsimp only; omega) (by dsimp only; omega) (by dsimp only; omega)
  clear hK K
  try simp only [Act.put, List.setIfInBounds_toArray, List.set_cons_zero, List.set_cons_succ]
  refine wpAnyH_take (i := 26) (oi := ⟨some 72, _, _, _, _, _⟩) (v := ?_) rfl (by kernel_rfl) (by kernel_rfl) (by kernel_rfl) (fun _ _ _ h => h) (Or.inl ⟨by rfl, ?_⟩) (by assumption) ?_
  rotate_left
  · (intro w hSw; (try dsimp only at hSw); go_simp; (try with_reducible rfl))
  try simp only [Act.put, List.setIfInBounds_toArray, List.set_cons_zero, List.set_cons_succ]
  refine wpAnyH_take (i := 27) (oi := ⟨some 73, _, _, _, _, _⟩) (v := ?_) rfl (by kernel_rfl) (by kernel_rfl) (by kernel_rfl) (fun _ _ _ h => h) (Or.inl ⟨by rfl, ?_⟩) (by assumption) ?_
  rotate_left
  · (intro w hSw; (try dsimp only at hSw); go_simp; (try with_reducible rfl))
  try simp only [Act.put, List.setIfInBounds_toArray, List.set_cons_zero, List.set_cons_succ]
  refine wpAnyH_take (i := 28) (oi := ⟨some 74, _, _, _, _, _⟩) (v := ?_) rfl (by kernel_rfl) (by kernel_rfl) (by kernel_rfl) (fun _ _ _ h => h) (Or.inl ⟨by rfl, ?_⟩) (by assumption) ?_
  rotate_left
  · (intro w hSw; (try dsimp only at hSw); go_simp; (try with_reducible rfl))
  try simp only [Act.put, List.setIfInBounds_toArray, List.set_cons_zero, List.set_cons_succ]
  refine wpAnyH_done (by kernel_rfl) ?_ _
  refine any_gen (fun z => z.cell? ⟨w.heap.size, 0, none⟩ = some (.int .i64 (x)) ∧ z.cell? ⟨w.heap.size, 1, none⟩ = some (.int .i64 (y)) ∧ z.cell? ⟨w.heap.size + 1, 0, none⟩ = some (.int .i64 (u)) ∧ z.cell? ⟨w.heap.size + 1, 1, none⟩ = some (.int .i64 (v)) ∧ z.cell? ⟨w.heap.size + 1 + 1, 0, none⟩ = some (.int .i64 (c)) ∧ z.cell? ⟨w.heap.size + 1 + 1, 1, none⟩ = some (.int .i64 (d)) ∧ z.cell? ⟨w.heap.size + 1 + 1 + 1, 0, none⟩ = some (.int .i64 (0)) ∧ z.cell? ⟨w.heap.size + 1 + 1 + 1, 1, none⟩ = some (.int .i64 (0)) ∧ w4.heap.size ≤ z.heap.size ∧ Below w.heap.size w z) (next8 ‹_ ∧ _› (by omega) hb0) ?_
  clear c1 c2 c3 c4 c5 c6 c7 c8 hb0
  rintro w5 ⟨c1, c2, c3, c4, c5, c6, c7, c8, hsz, hb0⟩
  replace hs := Nat.le_trans hs hsz
  clear hsz
  go_wp2_with fail
  refine (B1.out _).mono ?_
  rintro e w6 ⟨rfl, h6⟩
  obtain ⟨d1, d2, d3, d4, d5, d6, d7, d8, hsz, hb1⟩ := next8 (keep8 ⟨c1, c2, c3, c4, c5, c6, c7, c8, Below.refl _ _⟩ h6 (by dsimp only; omega) (by dsimp only; omega) (by dsimp only; omega) (by dsimp only; omega) (by dsimp only; omega) (by dsimp only; omega) (by dsimp only; omega) (by dsimp only; omega)) (by omega) hb0
  clear c1 c2 c3 c4 c5 c6 c7 c8 hb0 h6
  have c1 := d1
  clear d1
  have c2 := d2
  clear d2
  have c3 := d3
  clear d3
  have c4 := d4
  clear d4
  have c5 := d5
  clear d5
  have c6 := d6
  clear d6
  have c7 := d7
  clear d7
  have c8 := d8
  clear d8
  have hb0 := hb1
  clear hb1
  replace hs := Nat.le_trans hs hsz
  clear hsz
  go_wp2_with fail
  refine (B3.out _).mono ?_
  rintro e w7 ⟨rfl, h7⟩
  obtain ⟨d1, d2, d3, d4, d5, d6, d7, d8, hsz, hb1⟩ := next8 (keep8 ⟨c1, c2, c3, c4, c5, c6, c7, c8, Below.refl _ _⟩ h7 (by dsimp only; omega) (by dsimp only; omega) (by dsimp only; omega) (by dsimp only; omega) (by dsimp only; omega) (by dsimp only; omega) (by dsimp only; omega) (by dsimp only; omega)) (by omega) hb0
  clear c1 c2 c3 c4 c5 c6 c7 c8 hb0 h7
  have c1 := d1
  clear d1
  have c2 := d2
  clear d2
  have c3 := d3
  clear d3
  have c4 := d4
  clear d4
  have c5 := d5
  clear d5
  have c6 := d6
  clear d6
  have c7 := d7
  clear d7
  have c8 := d8
  clear d8
  have hb0 := hb1
  clear hb1
  replace hs := Nat.le_trans hs hsz
  clear hsz
  go_wp2
  go_ret
  exact ⟨by first | rfl | simp, hb0⟩

theorem ord_n111 (x y u v c d : Int) (w : World) (na : allNear [(x, y), (u, v), (c, d)] = true) (h1 : ¬ (x = 0 ∧ y = 0)) (h2 : ¬ (u = 0 ∧ v = 0)) (h3 : ¬ (c = 0 ∧ d = 0)) (hc : (x * v - y * u == 0) = true) (hd : decide (0 < x * u + y * v) = false) (hb1 : beforeV x y u v = true) (hb2 : beforeV u v c d = true) :
    Calls Try.prog 6 #[P2 x y, P2 u v, P2 c d] w fun e w' => e = .returned (.bool true) ∧ Below w.heap.size w w' := by
  obtain ⟨gx, gy, gu, gv, gc, gd⟩ := near_3 na
  have EQ1 := fun w => eq_pt x y 0 0 false (nz_eq h1) w
  have EQ2 := fun w => eq_pt u v 0 0 false (nz_eq h2) w
  have EQ3 := fun w => eq_pt c d 0 0 false (nz_eq h3) w
  have i0 := before_irr x y
  have s1 := hb1
  have s2 := before_other h1 h2 (show ¬ (crossN x y u v = 0 ∧ 0 < dotN x y u v) by unfold crossN dotN; simp at hc hd; omega)
  rw [s1] at s2
  have s3 := before_trans h1 h2 h3 hb1 hb2
  obtain ⟨D, hD⟩ : ∃ D, x * v - y * u = D := ⟨_, rfl⟩
  obtain ⟨E, hE⟩ : ∃ E, x * u + y * v = E := ⟨_, rfl⟩
  rw [hD] at hc
  rw [hE] at hd
  have CR0 := fun w => r4cross_any x y u v w gx gy gu gv
  simp only [hD] at CR0
  have CR := Lib.hid CR0
  clear CR0
  have DT0 := fun w => r4dot_any x y u v w gx gy gu gv
  simp only [hE] at DT0
  have DT := Lib.hid DT0
  clear DT0
  have B00 := fun w => before_any x y x y w gx gy gx gy
  simp only [i0] at B00
  have B0 := Lib.hid B00
  clear B00
  have B10 := fun w => before_any x y u v w gx gy gu gv
  simp only [s1] at B10
  have B1 := Lib.hid B10
  clear B10
  have B20 := fun w => before_any u v x y w gu gv gx gy
  simp only [s2] at B20
  simp only [Bool.not_true, Bool.not_false] at B20
  have B2 := Lib.hid B20
  clear B20
  have B30 := fun w => before_any u v c d w gu gv gc gd
  simp only [hb2] at B30
  have B3 := Lib.hid B30
  clear B30
  have B40 := fun w => before_any x y c d w gx gy gc gd
  simp only [s3] at B40
  have B4 := Lib.hid B40
  clear B40
  have NA := Lib.hid na
  clear na gx gy gu gv gc gd h1 h2 h3 i0 s1 s2 hD hE hb1 hb2 s3
  go_enter Try.func6, Try.ntmps6
  go_wp2_with fail
  refine (near3_any _ x y u v c d true _ NA.out (by simp) (by first | simp | simp [go_sem]) (by first | simp | simp [go_sem]) (by first | simp | simp [go_sem]) (by first | simp | simp [go_sem]) (by first | simp | simp [go_sem]) (by first | simp | simp [go_sem])).mono ?_
  rintro e w1 ⟨rfl, h1⟩
  have z1 := h1.size
  simp at z1
  have hs : w.heap.size + 1 + 1 + 1 + 1 + 1 ≤ w1.heap.size := by omega
  have c1 : w1.cell? ⟨w.heap.size, 0, none⟩ = some (.int .i64 (x)) := (h1.cell (p := ⟨w.heap.size, 0, none⟩) (by simp; try omega)).trans (by first | simp | simp [go_sem])
  have c2 : w1.cell? ⟨w.heap.size, 1, none⟩ = some (.int .i64 (y)) := (h1.cell (p := ⟨w.heap.size, 1, none⟩) (by simp; try omega)).trans (by first | simp | simp [go_sem])
  have c3 : w1.cell? ⟨w.heap.size + 1, 0, none⟩ = some (.int .i64 (u)) := (h1.cell (p := ⟨w.heap.size + 1, 0, none⟩) (by simp; try omega)).trans (by first | simp | simp [go_sem])
  have c4 : w1.cell? ⟨w.heap.size + 1, 1, none⟩ = some (.int .i64 (v)) := (h1.cell (p := ⟨w.heap.size + 1, 1, none⟩) (by simp; try omega)).trans (by first | simp | simp [go_sem])
  have c5 : w1.cell? ⟨w.heap.size + 1 + 1, 0, none⟩ = some (.int .i64 (c)) := (h1.cell (p := ⟨w.heap.size + 1 + 1, 0, none⟩) (by simp; try omega)).trans (by first | simp | simp [go_sem])
  have c6 : w1.cell? ⟨w.heap.size + 1 + 1, 1, none⟩ = some (.int .i64 (d)) := (h1.cell (p := ⟨w.heap.size + 1 + 1, 1, none⟩) (by simp; try omega)).trans (by first | simp | simp [go_sem])
  have c7 : w1.cell? ⟨w.heap.size + 1 + 1 + 1, 0, none⟩ = some (.int .i64 (0)) := (h1.cell (p := ⟨w.heap.size + 1 + 1 + 1, 0, none⟩) (by simp; try omega)).trans (by first | simp | simp [go_sem])
  have c8 : w1.cell? ⟨w.heap.size + 1 + 1 + 1, 1, none⟩ = some (.int .i64 (0)) := (h1.cell (p := ⟨w.heap.size + 1 + 1 + 1, 1, none⟩) (by simp; try omega)).trans (by first | simp | simp [go_sem])
  have hb0 : Below w.heap.size w w1 := ((((((Below.refl _ _).alloc (by simp; try omega) _).alloc (by simp; try omega) _).alloc (by simp; try omega) _).alloc (by simp; try omega) _).alloc (by simp; try omega) _).trans (h1.mono (by simp; try omega))
  clear h1 z1
  go_wp2_with fail
  refine (shown_any _).mono ?_
  rintro e w2 ⟨rfl, h2⟩
  obtain ⟨d1, d2, d3, d4, d5, d6, d7, d8, hsz, hb1⟩ := next8 (keep8 ⟨c1, c2, c3, c4, c5, c6, c7, c8, Below.refl _ _⟩ h2 (by dsimp only; omega) (by dsimp only; omega) (by dsimp only; omega) (by dsimp only; omega) (by dsimp only; omega) (by dsimp only; omega) (by dsimp only; omega) (by dsimp only; omega)) (by omega) hb0
  clear c1 c2 c3 c4 c5 c6 c7 c8 hb0 h2
  have c1 := d1
  clear d1
  have c2 := d2
  clear d2
  have c3 := d3
  clear d3
  have c4 := d4
  clear d4
  have c5 := d5
  clear d5
  have c6 := d6
  clear d6
  have c7 := d7
  clear d7
  have c8 := d8
  clear d8
  have hb0 := hb1
  clear hb1
  replace hs := Nat.le_trans hs hsz
  clear hsz
  go_wp2_with fail
  refine (CR.out _).mono ?_
  rintro e w3 ⟨rfl, h3⟩
  obtain ⟨d1, d2, d3, d4, d5, d6, d7, d8, hsz, hb1⟩ := next8 (keep8 ⟨c1, c2, c3, c4, c5, c6, c7, c8, Below.refl _ _⟩ h3 (by dsimp only; omega) (by dsimp only; omega) (by dsimp only; omega) (by dsimp only; omega) (by dsimp only; omega) (by dsimp only; omega) (by dsimp only; omega) (by dsimp only; omega)) (by omega) hb0
  clear c1 c2 c3 c4 c5 c6 c7 c8 hb0 h3
  have c1 := d1
  clear d1
  have c2 := d2
  clear d2
  have c3 := d3
  clear d3
  have c4 := d4
  clear d4
  have c5 := d5
  clear d5
  have c6 := d6
  clear d6
  have c7 := d7
  clear d7
  have c8 := d8
  clear d8
  have hb0 := hb1
  clear hb1
  replace hs := Nat.le_trans hs hsz
  clear hsz
  go_wp2_with fail
  refine (DT.out _).mono ?_
  rintro e w4 ⟨rfl, h4⟩
  obtain ⟨d1, d2, d3, d4, d5, d6, d7, d8, hsz, hb1⟩ := next8 (keep8 ⟨c1, c2, c3, c4, c5, c6, c7, c8, Below.refl _ _⟩ h4 (by dsimp only; omega) (by dsimp only; omega) (by dsimp only; omega) (by dsimp only; omega) (by dsimp only; omega) (by dsimp only; omega) (by dsimp only; omega) (by dsimp only; omega)) (by omega) hb0
  clear c1 c2 c3 c4 c5 c6 c7 c8 hb0 h4
  have c1 := d1
  clear d1
  have c2 := d2
  clear d2
  have c3 := d3
  clear d3
  have c4 := d4
  clear d4
  have c5 := d5
  clear d5
  have c6 := d6
  clear d6
  have c7 := d7
  clear d7
  have c8 := d8
  clear d8
  have hb0 := hb1
  clear hb1
  replace hs := Nat.le_trans hs hsz
  clear hsz
  go_wp2_with fail
  refine wp_region_held_drew (S := fun w' => w'.cell? ⟨w.heap.size, 0, none⟩ = some (.int .i64 (x)) ∧ w'.cell? ⟨w.heap.size, 1, none⟩ = some (.int .i64 (y)) ∧ w'.cell? ⟨w.heap.size + 1, 0, none⟩ = some (.int .i64 (u)) ∧ w'.cell? ⟨w.heap.size + 1, 1, none⟩ = some (.int .i64 (v)) ∧ w'.cell? ⟨w.heap.size + 1 + 1, 0, none⟩ = some (.int .i64 (c)) ∧ w'.cell? ⟨w.heap.size + 1 + 1, 1, none⟩ = some (.int .i64 (d)) ∧ w'.cell? ⟨w.heap.size + 1 + 1 + 1, 0, none⟩ = some (.int .i64 (0)) ∧ w'.cell? ⟨w.heap.size + 1 + 1 + 1, 1, none⟩ = some (.int .i64 (0)) ∧ Below w4.heap.size w4 w') (by kernel_rfl) ⟨by simp [*], by simp [*], by simp [*], by simp [*], by simp [*], by simp [*], by simp [*], by simp [*], (Below.refl _ _).drew⟩ (fun hHeld => ?_)
  refine wpAnyH_take (i := 0) (oi := ⟨some 46, _, _, _, _, _⟩) (v := ?_) rfl (by kernel_rfl) (by kernel_rfl) (by kernel_rfl) (fun _ _ _ h => h) (Or.inl ⟨by rfl, ?_⟩) (by assumption) ?_
  rotate_left
  · (intro w hSw; (try dsimp only at hSw); go_simp; (try with_reducible rfl))
  try simp only [Act.put, List.setIfInBounds_toArray, List.set_cons_zero, List.set_cons_succ]
  refine wpAnyH_take (i := 1) (oi := ⟨some 47, _, _, _, _, _⟩) (v := ?_) rfl (by kernel_rfl) (by kernel_rfl) (by kernel_rfl) (fun _ _ _ h => h) (Or.inl ⟨by rfl, ?_⟩) (by assumption) ?_
  rotate_left
  · (intro w hSw; (try dsimp only at hSw); go_simp; (try with_reducible rfl))
  try simp only [Act.put, List.setIfInBounds_toArray, List.set_cons_zero, List.set_cons_succ]
  refine wpAnyH_ready (rs := [2]) (by kernel_rfl) (by simp) ?_
  refine AllReadyH.cons (o := ⟨some 48, _, _, _, _, _⟩) rfl (fun K hK => ?_) AllReadyH.nil
  go_simp
  first | (go_at_call 24; with_reducible refine (B0.out _).mono ?_; rintro e w' ⟨rfl, hb⟩) | (go_at_call 24; with_reducible refine (B1.out _).mono ?_; rintro e w' ⟨rfl, hb⟩) | (go_at_call 24; with_reducible refine (B2.out _).mono ?_; rintro e w' ⟨rfl, hb⟩)
  try go_wp2_with fail
  refine hK.out _ _ ?_ (fun hHeld => ?_)
  · exact keep8 ‹_› hb (by dsimp only; omega) (by dsimp only; omega) (by dsimp only; omega) (by dsimp only; omega) (by dsimp only; omega) (by dsimp only; omega) (by dsimp only; omega) (by dsimp only; omega)
  clear hK K
  try simp only [Act.put, List.setIfInBounds_toArray, List.set_cons_zero, List.set_cons_succ]
  refine wpAnyH_take (i := 3) (oi := ⟨some 49, _, _, _, _, _⟩) (v := ?_) rfl (by kernel_rfl) (by kernel_rfl) (by kernel_rfl) (fun _ _ _ h => h) (Or.inl ⟨by rfl, ?_⟩) (by assumption) ?_
  rotate_left
  · (intro w hSw; (try dsimp only at hSw); go_simp; (try with_reducible rfl))
  try simp only [Act.put, List.setIfInBounds_toArray, List.set_cons_zero, List.set_cons_succ]
  refine wpAnyH_take (i := 4) (oi := ⟨some 50, _, _, _, _, _⟩) (v := ?_) rfl (by kernel_rfl) (by kernel_rfl) (by kernel_rfl) (fun _ _ _ h => h) (Or.inl ⟨by rfl, ?_⟩) (by assumption) ?_
  rotate_left
  · (intro w hSw; (try dsimp only at hSw); go_simp; (try with_reducible rfl))
  try simp only [Act.put, List.setIfInBounds_toArray, List.set_cons_zero, List.set_cons_succ]
  refine wpAnyH_take (i := 5) (oi := ⟨some 51, _, _, _, _, _⟩) (v := ?_) rfl (by kernel_rfl) (by kernel_rfl) (by kernel_rfl) (fun _ _ _ h => h) (Or.inl ⟨by rfl, ?_⟩) (by assumption) ?_
  rotate_left
  · (intro w hSw; (try dsimp only at hSw); go_simp; (try with_reducible rfl))
  try simp only [Act.put, List.setIfInBounds_toArray, List.set_cons_zero, List.set_cons_succ]
  refine wpAnyH_take (i := 6) (oi := ⟨some 52, _, _, _, _, _⟩) (v := undef) rfl (by kernel_rfl) (by kernel_rfl) (by kernel_rfl) (fun _ _ _ h => h) (Or.inr ⟨by rfl, rfl⟩) (by assumption) ?_
  try simp only [Act.put, List.setIfInBounds_toArray, List.set_cons_zero, List.set_cons_succ]
  refine wpAnyH_take (i := 7) (oi := ⟨some 53, _, _, _, _, _⟩) (v := undef) rfl (by kernel_rfl) (by kernel_rfl) (by kernel_rfl) (fun _ _ _ h => h) (Or.inr ⟨by rfl, rfl⟩) (by assumption) ?_
  try simp only [Act.put, List.setIfInBounds_toArray, List.set_cons_zero, List.set_cons_succ]
  refine wpAnyH_ready (rs := [8]) (by kernel_rfl) (by simp) ?_
  refine AllReadyH.cons (o := ⟨some 54, _, _, _, _, _⟩) rfl (fun K hK => ?_) AllReadyH.nil
  go_simp
  refine hK.out _ _ ?_ (fun hHeld => ?_)
  · assumption
  clear hK K
  try simp only [Act.put, List.setIfInBounds_toArray, List.set_cons_zero, List.set_cons_succ]
  refine wpAnyH_take (i := 9) (oi := ⟨some 55, _, _, _, _, _⟩) (v := undef) rfl (by kernel_rfl) (by kernel_rfl) (by kernel_rfl) (fun _ _ _ h => h) (Or.inr ⟨by rfl, rfl⟩) (by assumption) ?_
  try simp only [Act.put, List.setIfInBounds_toArray, List.set_cons_zero, List.set_cons_succ]
  refine wpAnyH_take (i := 10) (oi := ⟨some 56, _, _, _, _, _⟩) (v := undef) rfl (by kernel_rfl) (by kernel_rfl) (by kernel_rfl) (fun _ _ _ h => h) (Or.inr ⟨by rfl, rfl⟩) (by assumption) ?_
  try simp only [Act.put, List.setIfInBounds_toArray, List.set_cons_zero, List.set_cons_succ]
  refine wpAnyH_take (i := 11) (oi := ⟨some 57, _, _, _, _, _⟩) (v := undef) rfl (by kernel_rfl) (by kernel_rfl) (by kernel_rfl) (fun _ _ _ h => h) (Or.inr ⟨by rfl, rfl⟩) (by assumption) ?_
  try simp only [Act.put, List.setIfInBounds_toArray, List.set_cons_zero, List.set_cons_succ]
  refine wpAnyH_ready (rs := [12]) (by kernel_rfl) (by simp) ?_
  refine AllReadyH.cons (o := ⟨some 58, _, _, _, _, _⟩) rfl (fun K hK => ?_) AllReadyH.nil
  go_simp
  refine hK.out _ _ ?_ (fun hHeld => ?_)
  · assumption
  clear hK K
  try simp only [Act.put, List.setIfInBounds_toArray, List.set_cons_zero, List.set_cons_succ]
  refine wpAnyH_take (i := 13) (oi := ⟨some 59, _, _, _, _, _⟩) (v := undef) rfl (by kernel_rfl) (by kernel_rfl) (by kernel_rfl) (fun _ _ _ h => h) (Or.inr ⟨by rfl, rfl⟩) (by assumption) ?_
  try simp only [Act.put, List.setIfInBounds_toArray, List.set_cons_zero, List.set_cons_succ]
  refine wpAnyH_take (i := 14) (oi := ⟨some 60, _, _, _, _, _⟩) (v := ?_) rfl (by kernel_rfl) (by kernel_rfl) (by kernel_rfl) (fun _ _ _ h => h) (Or.inl ⟨by rfl, ?_⟩) (by assumption) ?_
  rotate_left
  · (intro w hSw; (try dsimp only at hSw); go_simp; (try with_reducible rfl))
  try simp only [Act.put, List.setIfInBounds_toArray, List.set_cons_zero, List.set_cons_succ]
  refine wpAnyH_take (i := 15) (oi := ⟨some 61, _, _, _, _, _⟩) (v := ?_) rfl (by kernel_rfl) (by kernel_rfl) (by kernel_rfl) (fun _ _ _ h => h) (Or.inl ⟨by rfl, ?_⟩) (by assumption) ?_
  rotate_left
  · (intro w hSw; (try dsimp only at hSw); go_simp; (try with_reducible rfl))
  try simp only [Act.put, List.setIfInBounds_toArray, List.set_cons_zero, List.set_cons_succ]
  refine wpAnyH_take (i := 16) (oi := ⟨some 62, _, _, _, _, _⟩) (v := ?_) rfl (by kernel_rfl) (by kernel_rfl) (by kernel_rfl) (fun _ _ _ h => h) (Or.inl ⟨by rfl, ?_⟩) (by assumption) ?_
  rotate_left
  · (intro w hSw; (try dsimp only at hSw); go_simp; (try with_reducible rfl))
  try simp only [Act.put, List.setIfInBounds_toArray, List.set_cons_zero, List.set_cons_succ]
  refine wpAnyH_take (i := 17) (oi := ⟨some 63, _, _, _, _, _⟩) (v := ?_) rfl (by kernel_rfl) (by kernel_rfl) (by kernel_rfl) (fun _ _ _ h => h) (Or.inl ⟨by rfl, ?_⟩) (by assumption) ?_
  rotate_left
  · (intro w hSw; (try dsimp only at hSw); go_simp; (try with_reducible rfl))
  try simp only [Act.put, List.setIfInBounds_toArray, List.set_cons_zero, List.set_cons_succ]
  refine wpAnyH_take (i := 18) (oi := ⟨some 64, _, _, _, _, _⟩) (v := ?_) rfl (by kernel_rfl) (by kernel_rfl) (by kernel_rfl) (fun _ _ _ h => h) (Or.inl ⟨by rfl, ?_⟩) (by assumption) ?_
  rotate_left
  · (intro w hSw; (try dsimp only at hSw); go_simp; (try with_reducible rfl))
  try simp only [Act.put, List.setIfInBounds_toArray, List.set_cons_zero, List.set_cons_succ]
  refine wpAnyH_take (i := 19) (oi := ⟨some 65, _, _, _, _, _⟩) (v := ?_) rfl (by kernel_rfl) (by kernel_rfl) (by kernel_rfl) (fun _ _ _ h => h) (Or.inl ⟨by rfl, ?_⟩) (by assumption) ?_
  rotate_left
  · (intro w hSw; (try dsimp only at hSw); go_simp; (try with_reducible rfl))
  try simp only [Act.put, List.setIfInBounds_toArray, List.set_cons_zero, List.set_cons_succ]
  refine wpAnyH_take (i := 20) (oi := ⟨some 66, _, _, _, _, _⟩) (v := ?_) rfl (by kernel_rfl) (by kernel_rfl) (by kernel_rfl) (fun _ _ _ h => h) (Or.inl ⟨by rfl, ?_⟩) (by assumption) ?_
  rotate_left
  · (intro w hSw; (try dsimp only at hSw); go_simp; (try with_reducible rfl))
  try simp only [Act.put, List.setIfInBounds_toArray, List.set_cons_zero, List.set_cons_succ]
  refine wpAnyH_take (i := 21) (oi := ⟨some 67, _, _, _, _, _⟩) (v := ?_) rfl (by kernel_rfl) (by kernel_rfl) (by kernel_rfl) (fun _ _ _ h => h) (Or.inl ⟨by rfl, ?_⟩) (by assumption) ?_
  rotate_left
  · (intro w hSw; (try dsimp only at hSw); go_simp; (try with_reducible rfl))
  try simp only [Act.put, List.setIfInBounds_toArray, List.set_cons_zero, List.set_cons_succ]
  refine wpAnyH_take (i := 23) (oi := ⟨some 69, _, _, _, _, _⟩) (v := ?_) rfl (by kernel_rfl) (by kernel_rfl) (by kernel_rfl) (fun _ _ _ h => h) (Or.inl ⟨by rfl, ?_⟩) (by assumption) ?_
  rotate_left
  · (intro w hSw; (try dsimp only at hSw); go_simp; (try with_reducible rfl))
  try simp only [Act.put, List.setIfInBounds_toArray, List.set_cons_zero, List.set_cons_succ]
  refine wpAnyH_take (i := 24) (oi := ⟨some 70, _, _, _, _, _⟩) (v := ?_) rfl (by kernel_rfl) (by kernel_rfl) (by kernel_rfl) (fun _ _ _ h => h) (Or.inl ⟨by rfl, ?_⟩) (by assumption) ?_
  rotate_left
  · (intro w hSw; (try dsimp only at hSw); go_simp; (try with_reducible rfl))
  try simp only [Act.put, List.setIfInBounds_toArray, List.set_cons_zero, List.set_cons_succ]
  refine wpAnyH_ready (rs := [22]) (by kernel_rfl) (by simp) ?_
  refine AllReadyH.cons (o := ⟨some 68, _, _, _, _, _⟩) rfl (fun K hK => ?_) AllReadyH.nil
  go_simp
  first | (go_at_call 24; with_reducible refine (B0.out _).mono ?_; rintro e w' ⟨rfl, hb⟩) | (go_at_call 24; with_reducible refine (B1.out _).mono ?_; rintro e w' ⟨rfl, hb⟩) | (go_at_call 24; with_reducible refine (B2.out _).mono ?_; rintro e w' ⟨rfl, hb⟩)
  try go_wp2_with fail
  refine hK.out _ _ ?_ (fun hHeld => ?_)
  · exact keep8 ‹_› hb (by dsimp only; omega) (by dsimp only; omega) (by dsimp only; omega) (by dsimp only; omega) (by dsimp only; omega) (by dsimp only; omega) (by dsimp only; omega) (by dsimp only; omega)
  clear hK K
  try simp only [Act.put, List.setIfInBounds_toArray, List.set_cons_zero, List.set_cons_succ]
  refine wpAnyH_ready (rs := [25]) (by kernel_rfl) (by simp) ?_
  refine AllReadyH.cons (o := ⟨some 71, _, _, _, _, _⟩) rfl (fun K hK => ?_) AllReadyH.nil
  go_simp
  first | (go_at_call 24; with_reducible refine (B0.out _).mono ?_; rintro e w' ⟨rfl, hb⟩) | (go_at_call 24; with_reducible refine (B1.out _).mono ?_; rintro e w' ⟨rfl, hb⟩) | (go_at_call 24; with_reducible refine (B2.out _).mono ?_; rintro e w' ⟨rfl, hb⟩)
  try go_wp2_with fail
  refine hK.out _ _ ?_ (fun hHeld => ?_)
  · exact keep8 ‹_› hb (by dsimp only; omega) (by dsimp only; omega) (by dsimp only; omega) (by dsimp only; omega) (by dsimp only; omega) (by dsimp only; omega) (by dsimp only; omega) (by dsimp only; omega)
  clear hK K
  try simp only [Act.put, List.setIfInBounds_toArray, List.set_cons_zero, List.set_cons_succ]
  refine wpAnyH_take (i := 26) (oi := ⟨some 72, _, _, _, _, _⟩) (v := ?_) rfl (by kernel_rfl) (by kernel_rfl) (by kernel_rfl) (fun _ _ _ h => h) (Or.inl ⟨by rfl, ?_⟩) (by assumption) ?_
  rotate_left
  · (intro w hSw; (try dsimp only at hSw); go_simp; (try with_reducible rfl))
  try simp only [Act.put, List.setIfInBounds_toArray, List.set_cons_zero, List.set_cons_succ]
  refine wpAnyH_take (i := 27) (oi := ⟨some 73, _, _, _, _, _⟩) (v := ?_) rfl (by kernel_rfl) (by kernel_rfl) (by kernel_rfl) (fun _ _ _ h => h) (Or.inl ⟨by rfl, ?_⟩) (by assumption) ?_
  rotate_left
  · (intro w hSw; (try dsimp only at hSw); go_simp; (try with_reducible rfl))
  try simp only [Act.put, List.setIfInBounds_toArray, List.set_cons_zero, List.set_cons_succ]
  refine wpAnyH_take (i := 28) (oi := ⟨some 74, _, _, _, _, _⟩) (v := ?_) rfl (by kernel_rfl) (by kernel_rfl) (by kernel_rfl) (fun _ _ _ h => h) (Or.inl ⟨by rfl, ?_⟩) (by assumption) ?_
  rotate_left
  · (intro w hSw; (try dsimp only at hSw); go_simp; (try with_reducible rfl))
  try simp only [Act.put, List.setIfInBounds_toArray, List.set_cons_zero, List.set_cons_succ]
  refine wpAnyH_done (by kernel_rfl) ?_ _
  refine any_gen (fun z => z.cell? ⟨w.heap.size, 0, none⟩ = some (.int .i64 (x)) ∧ z.cell? ⟨w.heap.size, 1, none⟩ = some (.int .i64 (y)) ∧ z.cell? ⟨w.heap.size + 1, 0, none⟩ = some (.int .i64 (u)) ∧ z.cell? ⟨w.heap.size + 1, 1, none⟩ = some (.int .i64 (v)) ∧ z.cell? ⟨w.heap.size + 1 + 1, 0, none⟩ = some (.int .i64 (c)) ∧ z.cell? ⟨w.heap.size + 1 + 1, 1, none⟩ = some (.int .i64 (d)) ∧ z.cell? ⟨w.heap.size + 1 + 1 + 1, 0, none⟩ = some (.int .i64 (0)) ∧ z.cell? ⟨w.heap.size + 1 + 1 + 1, 1, none⟩ = some (.int .i64 (0)) ∧ w4.heap.size ≤ z.heap.size ∧ Below w.heap.size w z) (next8 ‹_ ∧ _› (by omega) hb0) ?_
  clear c1 c2 c3 c4 c5 c6 c7 c8 hb0
  rintro w5 ⟨c1, c2, c3, c4, c5, c6, c7, c8, hsz, hb0⟩
  replace hs := Nat.le_trans hs hsz
  clear hsz
  go_wp2_with fail
  refine (B1.out _).mono ?_
  rintro e w6 ⟨rfl, h6⟩
  obtain ⟨d1, d2, d3, d4, d5, d6, d7, d8, hsz, hb1⟩ := next8 (keep8 ⟨c1, c2, c3, c4, c5, c6, c7, c8, Below.refl _ _⟩ h6 (by dsimp only; omega) (by dsimp only; omega) (by dsimp only; omega) (by dsimp only; omega) (by dsimp only; omega) (by dsimp only; omega) (by dsimp only; omega) (by dsimp only; omega)) (by omega) hb0
  clear c1 c2 c3 c4 c5 c6 c7 c8 hb0 h6
  have c1 := d1
  clear d1
  have c2 := d2
  clear d2
  have c3 := d3
  clear d3
  have c4 := d4
  clear d4
  have c5 := d5
  clear d5
  have c6 := d6
  clear d6
  have c7 := d7
  clear d7
  have c8 := d8
  clear d8
  have hb0 := hb1
  clear hb1
  replace hs := Nat.le_trans hs hsz
  clear hsz
  go_wp2_with fail
  refine (B3.out _).mono ?_
  rintro e w7 ⟨rfl, h7⟩
  obtain ⟨d1, d2, d3, d4, d5, d6, d7, d8, hsz, hb1⟩ := next8 (keep8 ⟨c1, c2, c3, c4, c5, c6, c7, c8, Below.refl _ _⟩ h7 (by dsimp only; omega) (by dsimp only; omega) (by dsimp only; omega) (by dsimp only; omega) (by dsimp only; omega) (by dsimp only; omega) (by dsimp only; omega) (by dsimp only; omega)) (by omega) hb0
  clear c1 c2 c3 c4 c5 c6 c7 c8 hb0 h7
  have c1 := d1
  clear d1
  have c2 := d2
  clear d2
  have c3 := d3
  clear d3
  have c4 := d4
  clear d4
  have c5 := d5
  clear d5
  have c6 := d6
  clear d6
  have c7 := d7
  clear d7
  have c8 := d8
  clear d8
  have hb0 := hb1
  clear hb1
  replace hs := Nat.le_trans hs hsz
  clear hsz
  go_wp2_with fail
  refine (B4.out _).mono ?_
  rintro e w8 ⟨rfl, h8⟩
  obtain ⟨d1, d2, d3, d4, d5, d6, d7, d8, hsz, hb1⟩ := next8 (keep8 ⟨c1, c2, c3, c4, c5, c6, c7, c8, Below.refl _ _⟩ h8 (by dsimp only; omega) (by dsimp only; omega) (by dsimp only; omega) (by dsimp only; omega) (by dsimp only; omega) (by dsimp only; omega) (by dsimp only; omega) (by dsimp only; omega)) (by omega) hb0
  clear c1 c2 c3 c4 c5 c6 c7 c8 hb0 h8
  have c1 := d1
  clear d1
  have c2 := d2
  clear d2
  have c3 := d3
  clear d3
  have c4 := d4
  clear d4
  have c5 := d5
  clear d5
  have c6 := d6
  clear d6
  have c7 := d7
  clear d7
  have c8 := d8
  clear d8
  have hb0 := hb1
  clear hb1
  replace hs := Nat.le_trans hs hsz
  clear hsz
  go_wp2
  go_ret
  exact ⟨by first | rfl | simp, hb0⟩

theorem walk_SignOrder (x y u v c d : Int) (w : World) :
    Calls Try.prog 6 #[P2 x y, P2 u v, P2 c d] w fun e w' => e = .returned (.bool true) ∧ Below w.heap.size w w' := by
  cases na : allNear [(x, y), (u, v), (c, d)] with
  | false => exact ord_far _ _ _ _ _ _ w na
  | true =>
    by_cases h1 : x = 0 ∧ y = 0
    · exact ord_z1 _ _ _ _ _ _ w na h1
    · by_cases h2 : u = 0 ∧ v = 0
      · exact ord_z2 _ _ _ _ _ _ w na h1 h2
      · by_cases h3 : c = 0 ∧ d = 0
        · exact ord_z3 _ _ _ _ _ _ w na h1 h2 h3
        · cases hc : (x * v - y * u == 0) with
          | false =>
            cases hb1 : beforeV x y u v with
            | false => exact ord_n000 _ _ _ _ _ _ w na h1 h2 h3 hc hb1
            | true =>
              cases hb2 : beforeV u v c d with
              | false => exact ord_n010 _ _ _ _ _ _ w na h1 h2 h3 hc hb1 hb2
              | true => exact ord_n011 _ _ _ _ _ _ w na h1 h2 h3 hc hb1 hb2
          | true =>
            cases hd : decide (0 < x * u + y * v) with
            | true => exact ord_s _ _ _ _ _ _ w na h1 h2 h3 hc hd
            | false =>
              cases hb1 : beforeV x y u v with
              | false => exact ord_n100 _ _ _ _ _ _ w na h1 h2 h3 hc hd hb1
              | true =>
                cases hb2 : beforeV u v c d with
                | false => exact ord_n110 _ _ _ _ _ _ w na h1 h2 h3 hc hd hb1 hb2
                | true => exact ord_n111 _ _ _ _ _ _ w na h1 h2 h3 hc hd hb1 hb2
end Go.Proofs.Ytfgkndfcddnhlaa
