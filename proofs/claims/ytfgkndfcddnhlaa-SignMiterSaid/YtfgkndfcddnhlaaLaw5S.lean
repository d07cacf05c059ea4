/- The small case that all statements of layer 5 show. -/
import Derived.Test.YtfgkndfcddnhlaaSignW
import Derived.Test.YtfgkndfcddnhlaaPts
namespace Go.Proofs.Ytfgkndfcddnhlaa
open Go.RowKit
set_option linter.unusedVariables false
set_option linter.unusedSimpArgs false
set_option maxHeartbeats 4000000
set_option maxRecDepth 100000

theorem sh1 : sideV 0 0 4 0 0 4 = 1 := by decide
theorem sh2 : withinV 0 0 4 0 0 4 1 1 = true := by decide
theorem sh3 : withinV 0 0 4 0 0 4 3 3 = false := by decide
theorem sh4 : beforeV 4 0 0 4 = true := by decide
theorem sh5 : quarterV 0 4 = 1 := by decide
theorem sh6 : miterV 4 0 4 0 1 = true := by decide
theorem sh7 : miterV 4 0 0 4 1 = false := by decide
theorem shown_any (w : World) :
    Calls Try.prog 11 #[] w fun e w' => e = .returned (.bool true) ∧ Below w.heap.size w w' := by
  have C10 := fun w => side_any 0 0 4 0 0 4 w (by omega) (by omega) (by omega) (by omega) (by omega) (by omega)
  simp only [sh1] at C10
  have C1 := Lib.hid C10
  clear C10
  have C20 := fun w => within_any 0 0 4 0 0 4 1 1 w (by omega) (by omega) (by omega) (by omega) (by omega) (by omega) (by omega) (by omega)
  simp only [sh2] at C20
  have C2 := Lib.hid C20
  clear C20
  have C30 := fun w => within_any 0 0 4 0 0 4 3 3 w (by omega) (by omega) (by omega) (by omega) (by omega) (by omega) (by omega) (by omega)
  simp only [sh3] at C30
  have C3 := Lib.hid C30
  clear C30
  have C40 := fun w => before_any 4 0 0 4 w (by omega) (by omega) (by omega) (by omega)
  simp only [sh4] at C40
  have C4 := Lib.hid C40
  clear C40
  have C50 := fun w => quarter_any 0 4 w
  simp only [sh5] at C50
  have C5 := Lib.hid C50
  clear C50
  have C60 := fun w => miter_any 4 0 4 0 1 w (by omega) (by omega) (by omega) (by omega) (by omega)
  simp only [sh6] at C60
  have C6 := Lib.hid C60
  clear C60
  have C70 := fun w => miter_any 4 0 0 4 1 w (by omega) (by omega) (by omega) (by omega) (by omega)
  simp only [sh7] at C70
  have C7 := Lib.hid C70
  clear C70
  go_enter Try.func11, Try.ntmps11
  go_wp2_with fail
  refine (C1.out _).mono ?_
  rintro e w1 ⟨rfl, h1⟩
  have z1 := h1.size
  simp at z1
  have hs : w.heap.size + 1 + 1 + 1 ≤ w1.heap.size := by omega
  have c1 : w1.cell? ⟨w.heap.size, 0, none⟩ = some (.int .i64 (0)) := (h1.cell (p := ⟨w.heap.size, 0, none⟩) (by simp; try omega)).trans (by first | simp | simp [go_sem])
  have c2 : w1.cell? ⟨w.heap.size, 1, none⟩ = some (.int .i64 (0)) := (h1.cell (p := ⟨w.heap.size, 1, none⟩) (by simp; try omega)).trans (by first | simp | simp [go_sem])
  have c3 : w1.cell? ⟨w.heap.size + 1, 0, none⟩ = some (.int .i64 (4)) := (h1.cell (p := ⟨w.heap.size + 1, 0, none⟩) (by simp; try omega)).trans (by first | simp | simp [go_sem])
  have c4 : w1.cell? ⟨w.heap.size + 1, 1, none⟩ = some (.int .i64 (0)) := (h1.cell (p := ⟨w.heap.size + 1, 1, none⟩) (by simp; try omega)).trans (by first | simp | simp [go_sem])
  have c5 : w1.cell? ⟨w.heap.size + 1 + 1, 0, none⟩ = some (.int .i64 (0)) := (h1.cell (p := ⟨w.heap.size + 1 + 1, 0, none⟩) (by simp; try omega)).trans (by first | simp | simp [go_sem])
  have c6 : w1.cell? ⟨w.heap.size + 1 + 1, 1, none⟩ = some (.int .i64 (4)) := (h1.cell (p := ⟨w.heap.size + 1 + 1, 1, none⟩) (by simp; try omega)).trans (by first | simp | simp [go_sem])
  have hb0 : Below w.heap.size w w1 := ((((Below.refl _ _).alloc (by simp; try omega) _).alloc (by simp; try omega) _).alloc (by simp; try omega) _).trans (h1.mono (by simp; try omega))
  clear h1 z1
  go_wp2_with fail
  refine (C2.out _).mono ?_
  rintro e w2 ⟨rfl, h2⟩
  obtain ⟨d1, d2, d3, d4, d5, d6, hsz, hb1⟩ := next6 (keep6 ⟨c1, c2, c3, c4, c5, c6, Below.refl _ _⟩ h2 (by dsimp only; omega) (by dsimp only; omega) (by dsimp only; omega) (by dsimp only; omega) (by dsimp only; omega) (by dsimp only; omega)) (by omega) hb0
  clear c1 c2 c3 c4 c5 c6 hb0 h2
  have c1 := d1
  clear d1
  have c2 := d2
  clear d2
  have c3 := d3
  clear d3
  have c4 := d4
  clear d4
  have c5 := d5
  clear d5
  have c6 := d6
  clear d6
  have hb0 := hb1
  clear hb1
  replace hs := Nat.le_trans hs hsz
  clear hsz
  go_wp2_with fail
  refine (C3.out _).mono ?_
  rintro e w3 ⟨rfl, h3⟩
  obtain ⟨d1, d2, d3, d4, d5, d6, hsz, hb1⟩ := next6 (keep6 ⟨c1, c2, c3, c4, c5, c6, Below.refl _ _⟩ h3 (by dsimp only; omega) (by dsimp only; omega) (by dsimp only; omega) (by dsimp only; omega) (by dsimp only; omega) (by dsimp only; omega)) (by omega) hb0
  clear c1 c2 c3 c4 c5 c6 hb0 h3
  have c1 := d1
  clear d1
  have c2 := d2
  clear d2
  have c3 := d3
  clear d3
  have c4 := d4
  clear d4
  have c5 := d5
  clear d5
  have c6 := d6
  clear d6
  have hb0 := hb1
  clear hb1
  replace hs := Nat.le_trans hs hsz
  clear hsz
  go_wp2_with fail
  refine (C4.out _).mono ?_
  rintro e w4 ⟨rfl, h4⟩
  obtain ⟨d1, d2, d3, d4, d5, d6, hsz, hb1⟩ := next6 (keep6 ⟨c1, c2, c3, c4, c5, c6, Below.refl _ _⟩ h4 (by dsimp only; omega) (by dsimp only; omega) (by dsimp only; omega) (by dsimp only; omega) (by dsimp only; omega) (by dsimp only; omega)) (by omega) hb0
  clear c1 c2 c3 c4 c5 c6 hb0 h4
  have c1 := d1
  clear d1
  have c2 := d2
  clear d2
  have c3 := d3
  clear d3
  have c4 := d4
  clear d4
  have c5 := d5
  clear d5
  have c6 := d6
  clear d6
  have hb0 := hb1
  clear hb1
  replace hs := Nat.le_trans hs hsz
  clear hsz
  go_wp2_with fail
  refine (C5.out _).mono ?_
  rintro e w5 ⟨rfl, h5⟩
  obtain ⟨d1, d2, d3, d4, d5, d6, hsz, hb1⟩ := next6 (keep6 ⟨c1, c2, c3, c4, c5, c6, Below.refl _ _⟩ h5 (by dsimp only; omega) (by dsimp only; omega) (by dsimp only; omega) (by dsimp only; omega) (by dsimp only; omega) (by dsimp only; omega)) (by omega) hb0
  clear c1 c2 c3 c4 c5 c6 hb0 h5
  have c1 := d1
  clear d1
  have c2 := d2
  clear d2
  have c3 := d3
  clear d3
  have c4 := d4
  clear d4
  have c5 := d5
  clear d5
  have c6 := d6
  clear d6
  have hb0 := hb1
  clear hb1
  replace hs := Nat.le_trans hs hsz
  clear hsz
  go_wp2_with fail
  refine (C6.out _).mono ?_
  rintro e w6 ⟨rfl, h6⟩
  obtain ⟨d1, d2, d3, d4, d5, d6, hsz, hb1⟩ := next6 (keep6 ⟨c1, c2, c3, c4, c5, c6, Below.refl _ _⟩ h6 (by dsimp only; omega) (by dsimp only; omega) (by dsimp only; omega) (by dsimp only; omega) (by dsimp only; omega) (by dsimp only; omega)) (by omega) hb0
  clear c1 c2 c3 c4 c5 c6 hb0 h6
  have c1 := d1
  clear d1
  have c2 := d2
  clear d2
  have c3 := d3
  clear d3
  have c4 := d4
  clear d4
  have c5 := d5
  clear d5
  have c6 := d6
  clear d6
  have hb0 := hb1
  clear hb1
  replace hs := Nat.le_trans hs hsz
  clear hsz
  go_wp2_with fail
  refine (C7.out _).mono ?_
  rintro e w7 ⟨rfl, h7⟩
  obtain ⟨d1, d2, d3, d4, d5, d6, hsz, hb1⟩ := next6 (keep6 ⟨c1, c2, c3, c4, c5, c6, Below.refl _ _⟩ h7 (by dsimp only; omega) (by dsimp only; omega) (by dsimp only; omega) (by dsimp only; omega) (by dsimp only; omega) (by dsimp only; omega)) (by omega) hb0
  clear c1 c2 c3 c4 c5 c6 hb0 h7
  have c1 := d1
  clear d1
  have c2 := d2
  clear d2
  have c3 := d3
  clear d3
  have c4 := d4
  clear d4
  have c5 := d5
  clear d5
  have c6 := d6
  clear d6
  have hb0 := hb1
  clear hb1
  replace hs := Nat.le_trans hs hsz
  clear hsz
  go_wp2
  go_ret
  exact ⟨rfl, hb0⟩

theorem near_1 {x y : Int} (h : allNear [(x, y)] = true) : (-1073741824 ≤ x ∧ x ≤ 1073741824) ∧ (-1073741824 ≤ y ∧ y ≤ 1073741824) := by
  unfold allNear at h
  simp only [List.all_cons, List.all_nil, Bool.and_true, Bool.and_eq_true, nearB_iff] at h
  omega
theorem near1_any (g : Nat) (x y : Int) (o : Bool) (w : World) (ho : allNear [(x, y)] = o) (hg : g < w.heap.size) (h0 : w.cell? ⟨g, 0, none⟩ = some (.int .i64 x)) (h1 : w.cell? ⟨g, 1, none⟩ = some (.int .i64 y)) :
    Calls Try.prog 10 #[.slice (some ⟨g, 0, none⟩) 1 1] w fun e w' => e = .returned (.bool o) ∧ Below w.heap.size w w' := by
  have h := near5_any g 1 [(x, y)] w ⟨hg, fun i p hp => ?_⟩ (by simp) (by simp)
  · rw [ho] at h; exact h
  · match i, hp with
    | 0, hp => cases hp; exact ⟨h0, h1⟩
    | k + 1, hp => simp at hp

theorem near_2 {x y u v : Int} (h : allNear [(x, y), (u, v)] = true) : (-1073741824 ≤ x ∧ x ≤ 1073741824) ∧ (-1073741824 ≤ y ∧ y ≤ 1073741824) ∧ (-1073741824 ≤ u ∧ u ≤ 1073741824) ∧ (-1073741824 ≤ v ∧ v ≤ 1073741824) := by
  unfold allNear at h
  simp only [List.all_cons, List.all_nil, Bool.and_true, Bool.and_eq_true, nearB_iff] at h
  omega
theorem near2_any (g : Nat) (x y u v : Int) (o : Bool) (w : World) (ho : allNear [(x, y), (u, v)] = o) (hg : g < w.heap.size) (h0 : w.cell? ⟨g, 0, none⟩ = some (.int .i64 x)) (h1 : w.cell? ⟨g, 1, none⟩ = some (.int .i64 y)) (h2 : w.cell? ⟨g, 2, none⟩ = some (.int .i64 u)) (h3 : w.cell? ⟨g, 3, none⟩ = some (.int .i64 v)) :
    Calls Try.prog 10 #[.slice (some ⟨g, 0, none⟩) 2 2] w fun e w' => e = .returned (.bool o) ∧ Below w.heap.size w w' := by
  have h := near5_any g 2 [(x, y), (u, v)] w ⟨hg, fun i p hp => ?_⟩ (by simp) (by simp)
  · rw [ho] at h; exact h
  · match i, hp with
    | 0, hp => cases hp; exact ⟨h0, h1⟩
    | 1, hp => cases hp; exact ⟨h2, h3⟩
    | k + 2, hp => simp at hp

theorem near_3 {x y u v c d : Int} (h : allNear [(x, y), (u, v), (c, d)] = true) : (-1073741824 ≤ x ∧ x ≤ 1073741824) ∧ (-1073741824 ≤ y ∧ y ≤ 1073741824) ∧ (-1073741824 ≤ u ∧ u ≤ 1073741824) ∧ (-1073741824 ≤ v ∧ v ≤ 1073741824) ∧ (-1073741824 ≤ c ∧ c ≤ 1073741824) ∧ (-1073741824 ≤ d ∧ d ≤ 1073741824) := by
  unfold allNear at h
  simp only [List.all_cons, List.all_nil, Bool.and_true, Bool.and_eq_true, nearB_iff] at h
  omega
theorem near3_any (g : Nat) (x y u v c d : Int) (o : Bool) (w : World) (ho : allNear [(x, y), (u, v), (c, d)] = o) (hg : g < w.heap.size) (h0 : w.cell? ⟨g, 0, none⟩ = some (.int .i64 x)) (h1 : w.cell? ⟨g, 1, none⟩ = some (.int .i64 y)) (h2 : w.cell? ⟨g, 2, none⟩ = some (.int .i64 u)) (h3 : w.cell? ⟨g, 3, none⟩ = some (.int .i64 v)) (h4 : w.cell? ⟨g, 4, none⟩ = some (.int .i64 c)) (h5 : w.cell? ⟨g, 5, none⟩ = some (.int .i64 d)) :
    Calls Try.prog 10 #[.slice (some ⟨g, 0, none⟩) 3 3] w fun e w' => e = .returned (.bool o) ∧ Below w.heap.size w w' := by
  have h := near5_any g 3 [(x, y), (u, v), (c, d)] w ⟨hg, fun i p hp => ?_⟩ (by simp) (by simp)
  · rw [ho] at h; exact h
  · match i, hp with
    | 0, hp => cases hp; exact ⟨h0, h1⟩
    | 1, hp => cases hp; exact ⟨h2, h3⟩
    | 2, hp => cases hp; exact ⟨h4, h5⟩
    | k + 3, hp => simp at hp

theorem near_4 {x y u v c d p q : Int} (h : allNear [(x, y), (u, v), (c, d), (p, q)] = true) : (-1073741824 ≤ x ∧ x ≤ 1073741824) ∧ (-1073741824 ≤ y ∧ y ≤ 1073741824) ∧ (-1073741824 ≤ u ∧ u ≤ 1073741824) ∧ (-1073741824 ≤ v ∧ v ≤ 1073741824) ∧ (-1073741824 ≤ c ∧ c ≤ 1073741824) ∧ (-1073741824 ≤ d ∧ d ≤ 1073741824) ∧ (-1073741824 ≤ p ∧ p ≤ 1073741824) ∧ (-1073741824 ≤ q ∧ q ≤ 1073741824) := by
  unfold allNear at h
  simp only [List.all_cons, List.all_nil, Bool.and_true, Bool.and_eq_true, nearB_iff] at h
  omega
theorem near4_any (g : Nat) (x y u v c d p q : Int) (o : Bool) (w : World) (ho : allNear [(x, y), (u, v), (c, d), (p, q)] = o) (hg : g < w.heap.size) (h0 : w.cell? ⟨g, 0, none⟩ = some (.int .i64 x)) (h1 : w.cell? ⟨g, 1, none⟩ = some (.int .i64 y)) (h2 : w.cell? ⟨g, 2, none⟩ = some (.int .i64 u)) (h3 : w.cell? ⟨g, 3, none⟩ = some (.int .i64 v)) (h4 : w.cell? ⟨g, 4, none⟩ = some (.int .i64 c)) (h5 : w.cell? ⟨g, 5, none⟩ = some (.int .i64 d)) (h6 : w.cell? ⟨g, 6, none⟩ = some (.int .i64 p)) (h7 : w.cell? ⟨g, 7, none⟩ = some (.int .i64 q)) :
    Calls Try.prog 10 #[.slice (some ⟨g, 0, none⟩) 4 4] w fun e w' => e = .returned (.bool o) ∧ Below w.heap.size w w' := by
  have h := near5_any g 4 [(x, y), (u, v), (c, d), (p, q)] w ⟨hg, fun i p hp => ?_⟩ (by simp) (by simp)
  · rw [ho] at h; exact h
  · match i, hp with
    | 0, hp => cases hp; exact ⟨h0, h1⟩
    | 1, hp => cases hp; exact ⟨h2, h3⟩
    | 2, hp => cases hp; exact ⟨h4, h5⟩
    | 3, hp => cases hp; exact ⟨h6, h7⟩
    | k + 4, hp => simp at hp

theorem eq_pt (x y u v : Int) (b : Bool) (h : (x == u && y == v) = b) (w : World) :
    (binOp .eql 23 (P2 x y) (P2 u v)).run Try.prog w = .ok (.bool b) w := by
  subst h
  cases hx : (x == u) <;> cases hy : (y == v) <;> simp [go_sem, hx, hy]
theorem nz_eq {x y : Int} (h : ¬ (x = 0 ∧ y = 0)) : (x == 0 && y == 0) = false := by
  rw [Bool.and_eq_false_iff]
  by_cases g : x = 0
  · exact .inr (by simpa using fun k => h ⟨g, k⟩)
  · exact .inl (by simpa using g)
end Go.Proofs.Ytfgkndfcddnhlaa
