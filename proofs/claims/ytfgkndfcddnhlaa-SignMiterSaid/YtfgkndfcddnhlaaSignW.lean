/- What the program's own layer 5 answers: the sides of a triangle, what lies within it. -/
import Derived.Test.YtfgkndfcddnhlaaSign
namespace Go.Proofs.Ytfgkndfcddnhlaa
open Go.RowKit
set_option linter.unusedVariables false
set_option linter.unusedSimpArgs false
set_option maxHeartbeats 4000000
set_option maxRecDepth 100000

/-- Below 0, or above, among the first k of three. -/
def anyLt (s1 s2 s3 : Int) (k : Nat) : Bool := (decide (0 < k) && decide (s1 < 0)) || (decide (1 < k) && decide (s2 < 0)) || (decide (2 < k) && decide (s3 < 0))
def anyGt (s1 s2 s3 : Int) (k : Nat) : Bool := (decide (0 < k) && decide (0 < s1)) || (decide (1 < k) && decide (0 < s2)) || (decide (2 < k) && decide (0 < s3))
theorem sides_any (x y u v a b z t : Int) (g : Nat) (w : World) (hx : -1073741824 ≤ x ∧ x ≤ 1073741824) (hy : -1073741824 ≤ y ∧ y ≤ 1073741824) (hu : -1073741824 ≤ u ∧ u ≤ 1073741824) (hv : -1073741824 ≤ v ∧ v ≤ 1073741824) (ha : -1073741824 ≤ a ∧ a ≤ 1073741824) (hb : -1073741824 ≤ b ∧ b ≤ 1073741824) (hz : -1073741824 ≤ z ∧ z ≤ 1073741824) (ht : -1073741824 ≤ t ∧ t ≤ 1073741824) (hg : g < w.heap.size) (hr : w.cell? ⟨g, 0, none⟩ = some (.int .i64 (x)) ∧ w.cell? ⟨g, 1, none⟩ = some (.int .i64 (y)) ∧ w.cell? ⟨g, 2, none⟩ = some (.int .i64 (u)) ∧ w.cell? ⟨g, 3, none⟩ = some (.int .i64 (v)) ∧ w.cell? ⟨g, 4, none⟩ = some (.int .i64 (a)) ∧ w.cell? ⟨g, 5, none⟩ = some (.int .i64 (b))) :
    Calls Try.prog 39 #[P2 z t, .slice (some ⟨g, 0, none⟩) 3 3] w fun e w' => e = .returned (.tuple #[.bool (anyLt (sideV x y u v z t) (sideV u v a b z t) (sideV a b x y z t) 3), .bool (anyGt (sideV x y u v z t) (sideV u v a b z t) (sideV a b x y z t) 3)]) ∧ Below w.heap.size w w' := by
  have k1 := sideV_3 x y u v z t
  have k2 := sideV_3 u v a b z t
  have k3 := sideV_3 a b x y z t
  obtain ⟨s1, hs1⟩ : ∃ s1, sideV x y u v z t = s1 := ⟨_, rfl⟩
  obtain ⟨s2, hs2⟩ : ∃ s2, sideV u v a b z t = s2 := ⟨_, rfl⟩
  obtain ⟨s3, hs3⟩ : ∃ s3, sideV a b x y z t = s3 := ⟨_, rfl⟩
  rw [hs1] at k1
  rw [hs2] at k2
  rw [hs3] at k3
  rw [hs1, hs2, hs3]
  have S10 := fun w => side_any x y u v z t w hx hy hu hv hz ht
  simp only [hs1] at S10
  have S1 := Lib.hid S10
  clear S10
  have S20 := fun w => side_any u v a b z t w hu hv ha hb hz ht
  simp only [hs2] at S20
  have S2 := Lib.hid S20
  clear S20
  have S30 := fun w => side_any a b x y z t w ha hb hx hy hz ht
  simp only [hs3] at S30
  have S3 := Lib.hid S30
  clear S30
  have K1 := Lib.hid k1
  have K2 := Lib.hid k2
  have K3 := Lib.hid k3
  have HR := Lib.hid hr
  clear hs1 hs2 hs3 k1 k2 k3 hr hx hy hu hv ha hb hz ht
  go_enter Try.func39, Try.ntmps39
  go_wp2_with fail
  go_loopw [4, 5, 12] (fun s4 s5 s12 wr => ∃ k : Nat, k ≤ 3 ∧ s12 = .int .i64 k ∧ s4 = .bool (anyLt s1 s2 s3 k) ∧ s5 = .bool (anyGt s1 s2 s3 k) ∧ (wr.cell? ⟨g, 0, none⟩ = some (.int .i64 (x)) ∧ wr.cell? ⟨g, 1, none⟩ = some (.int .i64 (y)) ∧ wr.cell? ⟨g, 2, none⟩ = some (.int .i64 (u)) ∧ wr.cell? ⟨g, 3, none⟩ = some (.int .i64 (v)) ∧ wr.cell? ⟨g, 4, none⟩ = some (.int .i64 (a)) ∧ wr.cell? ⟨g, 5, none⟩ = some (.int .i64 (b))) ∧ (wr.cell? ⟨w.heap.size, 0, none⟩ = some (.int .i64 (z)) ∧ wr.cell? ⟨w.heap.size, 1, none⟩ = some (.int .i64 (t))) ∧ w.heap.size + 1 ≤ wr.heap.size ∧ Below w.heap.size w wr) (fun _ _ s12 _ => 3 - (intOf s12).toNat)
  case atStart => exact ⟨0, by omega, rfl, rfl, rfl, by (have hr := HR.out); refine ⟨(World.cell?_alloc_old _ _ _ (by dsimp only; omega)).trans hr.1, (World.cell?_alloc_old _ _ _ (by dsimp only; omega)).trans hr.2.1, (World.cell?_alloc_old _ _ _ (by dsimp only; omega)).trans hr.2.2.1, (World.cell?_alloc_old _ _ _ (by dsimp only; omega)).trans hr.2.2.2.1, (World.cell?_alloc_old _ _ _ (by dsimp only; omega)).trans hr.2.2.2.2.1, (World.cell?_alloc_old _ _ _ (by dsimp only; omega)).trans hr.2.2.2.2.2⟩, ⟨by simp [go_sem], by simp [go_sem]⟩, by simp, (Below.refl _ _).alloc (by simp) _⟩
  case round =>
    obtain ⟨k, hk, rfl, rfl, rfl, ⟨c1, c2, c3, c4, c5, c6⟩, ⟨c7, c8⟩, hs, hb0⟩ := hrel
    obtain rfl | rfl | rfl | rfl : k = 0 ∨ k = 1 ∨ k = 2 ∨ k = 3 := by omega
    · obtain ⟨A, hA⟩ : ∃ A, anyLt s1 s2 s3 0 = A := ⟨_, rfl⟩
      obtain ⟨B, hB⟩ : ∃ B, anyGt s1 s2 s3 0 = B := ⟨_, rfl⟩
      have FL := Lib.hid (show anyLt s1 s2 s3 1 = (A || decide (s1 < 0)) by rw [← hA]; unfold anyLt; simp)
      have FG := Lib.hid (show anyGt s1 s2 s3 1 = (B || decide (0 < s1)) by rw [← hB]; unfold anyGt; simp)
      rw [hA, hB]
      clear hA hB
      have hz : w.heap.size + 1 ≤ wr.heap.size := hs
      have ho2 := fun o => (World.cell?_alloc_old wr o ⟨g, 2, none⟩ (by dsimp only; omega)).trans c3
      have ho3 := fun o => (World.cell?_alloc_old wr o ⟨g, 3, none⟩ (by dsimp only; omega)).trans c4
      have hp0 := fun o p => (World.cell?_alloc_old (wr.alloc o) p ⟨w.heap.size, 0, none⟩ (by simp; omega)).trans ((World.cell?_alloc_old wr o ⟨w.heap.size, 0, none⟩ (by dsimp only; omega)).trans c7)
      have hp1 := fun o p => (World.cell?_alloc_old (wr.alloc o) p ⟨w.heap.size, 1, none⟩ (by simp; omega)).trans ((World.cell?_alloc_old wr o ⟨w.heap.size, 1, none⟩ (by dsimp only; omega)).trans c8)
      go_wp2_with fail
      refine (S1.out _).mono ?_
      rintro e w1 ⟨rfl, h1⟩
      have z1 := h1.size
      simp at z1
      have d1 : w1.cell? ⟨g, 0, none⟩ = some (.int .i64 (x)) := (h1.cell (p := ⟨g, 0, none⟩) (by simp; omega)).trans ((World.cell?_alloc_old _ _ _ (by simp; omega)).trans ((World.cell?_alloc_old _ _ _ (by dsimp only; omega)).trans c1))
      have d2 : w1.cell? ⟨g, 1, none⟩ = some (.int .i64 (y)) := (h1.cell (p := ⟨g, 1, none⟩) (by simp; omega)).trans ((World.cell?_alloc_old _ _ _ (by simp; omega)).trans ((World.cell?_alloc_old _ _ _ (by dsimp only; omega)).trans c2))
      have d3 : w1.cell? ⟨g, 2, none⟩ = some (.int .i64 (u)) := (h1.cell (p := ⟨g, 2, none⟩) (by simp; omega)).trans ((World.cell?_alloc_old _ _ _ (by simp; omega)).trans ((World.cell?_alloc_old _ _ _ (by dsimp only; omega)).trans c3))
      have d4 : w1.cell? ⟨g, 3, none⟩ = some (.int .i64 (v)) := (h1.cell (p := ⟨g, 3, none⟩) (by simp; omega)).trans ((World.cell?_alloc_old _ _ _ (by simp; omega)).trans ((World.cell?_alloc_old _ _ _ (by dsimp only; omega)).trans c4))
      have d5 : w1.cell? ⟨g, 4, none⟩ = some (.int .i64 (a)) := (h1.cell (p := ⟨g, 4, none⟩) (by simp; omega)).trans ((World.cell?_alloc_old _ _ _ (by simp; omega)).trans ((World.cell?_alloc_old _ _ _ (by dsimp only; omega)).trans c5))
      have d6 : w1.cell? ⟨g, 5, none⟩ = some (.int .i64 (b)) := (h1.cell (p := ⟨g, 5, none⟩) (by simp; omega)).trans ((World.cell?_alloc_old _ _ _ (by simp; omega)).trans ((World.cell?_alloc_old _ _ _ (by dsimp only; omega)).trans c6))
      have d7 : w1.cell? ⟨w.heap.size, 0, none⟩ = some (.int .i64 (z)) := (h1.cell (p := ⟨w.heap.size, 0, none⟩) (by simp; omega)).trans ((World.cell?_alloc_old _ _ _ (by simp; omega)).trans ((World.cell?_alloc_old _ _ _ (by dsimp only; omega)).trans c7))
      have d8 : w1.cell? ⟨w.heap.size, 1, none⟩ = some (.int .i64 (t)) := (h1.cell (p := ⟨w.heap.size, 1, none⟩) (by simp; omega)).trans ((World.cell?_alloc_old _ _ _ (by simp; omega)).trans ((World.cell?_alloc_old _ _ _ (by dsimp only; omega)).trans c8))
      have hb1 : Below w.heap.size w w1 := ((hb0.alloc (by omega) _).alloc (by simp; omega) _).trans (h1.mono (by simp; omega))
      clear h1 hb0 c1 c2 c3 c4 c5 c6 c7 c8 ho2 ho3 hp0 hp1
      rcases K1.out with rfl | rfl | rfl <;> cases A <;> cases B
      all_goals
        go_wp2
        go_roundw
        case rel => exact ⟨1, by omega, rfl, by rw [FL.out]; rfl, by rw [FG.out]; rfl, ⟨d1, d2, d3, d4, d5, d6⟩, ⟨d7, d8⟩, by omega, hb1⟩
        case measure => simp [intOf]
    · obtain ⟨A, hA⟩ : ∃ A, anyLt s1 s2 s3 1 = A := ⟨_, rfl⟩
      obtain ⟨B, hB⟩ : ∃ B, anyGt s1 s2 s3 1 = B := ⟨_, rfl⟩
      have FL := Lib.hid (show anyLt s1 s2 s3 2 = (A || decide (s2 < 0)) by rw [← hA]; unfold anyLt; simp)
      have FG := Lib.hid (show anyGt s1 s2 s3 2 = (B || decide (0 < s2)) by rw [← hB]; unfold anyGt; simp)
      rw [hA, hB]
      clear hA hB
      have hz : w.heap.size + 1 ≤ wr.heap.size := hs
      have ho4 := fun o => (World.cell?_alloc_old wr o ⟨g, 4, none⟩ (by dsimp only; omega)).trans c5
      have ho5 := fun o => (World.cell?_alloc_old wr o ⟨g, 5, none⟩ (by dsimp only; omega)).trans c6
      have hp0 := fun o p => (World.cell?_alloc_old (wr.alloc o) p ⟨w.heap.size, 0, none⟩ (by simp; omega)).trans ((World.cell?_alloc_old wr o ⟨w.heap.size, 0, none⟩ (by dsimp only; omega)).trans c7)
      have hp1 := fun o p => (World.cell?_alloc_old (wr.alloc o) p ⟨w.heap.size, 1, none⟩ (by simp; omega)).trans ((World.cell?_alloc_old wr o ⟨w.heap.size, 1, none⟩ (by dsimp only; omega)).trans c8)
      go_wp2_with fail
      refine (S2.out _).mono ?_
      rintro e w1 ⟨rfl, h1⟩
      have z1 := h1.size
      simp at z1
      have d1 : w1.cell? ⟨g, 0, none⟩ = some (.int .i64 (x)) := (h1.cell (p := ⟨g, 0, none⟩) (by simp; omega)).trans ((World.cell?_alloc_old _ _ _ (by simp; omega)).trans ((World.cell?_alloc_old _ _ _ (by dsimp only; omega)).trans c1))
      have d2 : w1.cell? ⟨g, 1, none⟩ = some (.int .i64 (y)) := (h1.cell (p := ⟨g, 1, none⟩) (by simp; omega)).trans ((World.cell?_alloc_old _ _ _ (by simp; omega)).trans ((World.cell?_alloc_old _ _ _ (by dsimp only; omega)).trans c2))
      have d3 : w1.cell? ⟨g, 2, none⟩ = some (.int .i64 (u)) := (h1.cell (p := ⟨g, 2, none⟩) (by simp; omega)).trans ((World.cell?_alloc_old _ _ _ (by simp; omega)).trans ((World.cell?_alloc_old _ _ _ (by dsimp only; omega)).trans c3))
      have d4 : w1.cell? ⟨g, 3, none⟩ = some (.int .i64 (v)) := (h1.cell (p := ⟨g, 3, none⟩) (by simp; omega)).trans ((World.cell?_alloc_old _ _ _ (by simp; omega)).trans ((World.cell?_alloc_old _ _ _ (by dsimp only; omega)).trans c4))
      have d5 : w1.cell? ⟨g, 4, none⟩ = some (.int .i64 (a)) := (h1.cell (p := ⟨g, 4, none⟩) (by simp; omega)).trans ((World.cell?_alloc_old _ _ _ (by simp; omega)).trans ((World.cell?_alloc_old _ _ _ (by dsimp only; omega)).trans c5))
      have d6 : w1.cell? ⟨g, 5, none⟩ = some (.int .i64 (b)) := (h1.cell (p := ⟨g, 5, none⟩) (by simp; omega)).trans ((World.cell?_alloc_old _ _ _ (by simp; omega)).trans ((World.cell?_alloc_old _ _ _ (by dsimp only; omega)).trans c6))
      have d7 : w1.cell? ⟨w.heap.size, 0, none⟩ = some (.int .i64 (z)) := (h1.cell (p := ⟨w.heap.size, 0, none⟩) (by simp; omega)).trans ((World.cell?_alloc_old _ _ _ (by simp; omega)).trans ((World.cell?_alloc_old _ _ _ (by dsimp only; omega)).trans c7))
      have d8 : w1.cell? ⟨w.heap.size, 1, none⟩ = some (.int .i64 (t)) := (h1.cell (p := ⟨w.heap.size, 1, none⟩) (by simp; omega)).trans ((World.cell?_alloc_old _ _ _ (by simp; omega)).trans ((World.cell?_alloc_old _ _ _ (by dsimp only; omega)).trans c8))
      have hb1 : Below w.heap.size w w1 := ((hb0.alloc (by omega) _).alloc (by simp; omega) _).trans (h1.mono (by simp; omega))
      clear h1 hb0 c1 c2 c3 c4 c5 c6 c7 c8 ho4 ho5 hp0 hp1
      rcases K2.out with rfl | rfl | rfl <;> cases A <;> cases B
      all_goals
        go_wp2
        go_roundw
        case rel => exact ⟨2, by omega, rfl, by rw [FL.out]; rfl, by rw [FG.out]; rfl, ⟨d1, d2, d3, d4, d5, d6⟩, ⟨d7, d8⟩, by omega, hb1⟩
        case measure => simp [intOf]
    · obtain ⟨A, hA⟩ : ∃ A, anyLt s1 s2 s3 2 = A := ⟨_, rfl⟩
      obtain ⟨B, hB⟩ : ∃ B, anyGt s1 s2 s3 2 = B := ⟨_, rfl⟩
      have FL := Lib.hid (show anyLt s1 s2 s3 3 = (A || decide (s3 < 0)) by rw [← hA]; unfold anyLt; simp)
      have FG := Lib.hid (show anyGt s1 s2 s3 3 = (B || decide (0 < s3)) by rw [← hB]; unfold anyGt; simp)
      rw [hA, hB]
      clear hA hB
      have hz : w.heap.size + 1 ≤ wr.heap.size := hs
      have ho0 := fun o => (World.cell?_alloc_old wr o ⟨g, 0, none⟩ (by dsimp only; omega)).trans c1
      have ho1 := fun o => (World.cell?_alloc_old wr o ⟨g, 1, none⟩ (by dsimp only; omega)).trans c2
      have hp0 := fun o p => (World.cell?_alloc_old (wr.alloc o) p ⟨w.heap.size, 0, none⟩ (by simp; omega)).trans ((World.cell?_alloc_old wr o ⟨w.heap.size, 0, none⟩ (by dsimp only; omega)).trans c7)
      have hp1 := fun o p => (World.cell?_alloc_old (wr.alloc o) p ⟨w.heap.size, 1, none⟩ (by simp; omega)).trans ((World.cell?_alloc_old wr o ⟨w.heap.size, 1, none⟩ (by dsimp only; omega)).trans c8)
      go_wp2_with fail
      refine (S3.out _).mono ?_
      rintro e w1 ⟨rfl, h1⟩
      have z1 := h1.size
      simp at z1
      have d1 : w1.cell? ⟨g, 0, none⟩ = some (.int .i64 (x)) := (h1.cell (p := ⟨g, 0, none⟩) (by simp; omega)).trans ((World.cell?_alloc_old _ _ _ (by simp; omega)).trans ((World.cell?_alloc_old _ _ _ (by dsimp only; omega)).trans c1))
      have d2 : w1.cell? ⟨g, 1, none⟩ = some (.int .i64 (y)) := (h1.cell (p := ⟨g, 1, none⟩) (by simp; omega)).trans ((World.cell?_alloc_old _ _ _ (by simp; omega)).trans ((World.cell?_alloc_old _ _ _ (by dsimp only; omega)).trans c2))
      have d3 : w1.cell? ⟨g, 2, none⟩ = some (.int .i64 (u)) := (h1.cell (p := ⟨g, 2, none⟩) (by simp; omega)).trans ((World.cell?_alloc_old _ _ _ (by simp; omega)).trans ((World.cell?_alloc_old _ _ _ (by dsimp only; omega)).trans c3))
      have d4 : w1.cell? ⟨g, 3, none⟩ = some (.int .i64 (v)) := (h1.cell (p := ⟨g, 3, none⟩) (by simp; omega)).trans ((World.cell?_alloc_old _ _ _ (by simp; omega)).trans ((World.cell?_alloc_old _ _ _ (by dsimp only; omega)).trans c4))
      have d5 : w1.cell? ⟨g, 4, none⟩ = some (.int .i64 (a)) := (h1.cell (p := ⟨g, 4, none⟩) (by simp; omega)).trans ((World.cell?_alloc_old _ _ _ (by simp; omega)).trans ((World.cell?_alloc_old _ _ _ (by dsimp only; omega)).trans c5))
      have d6 : w1.cell? ⟨g, 5, none⟩ = some (.int .i64 (b)) := (h1.cell (p := ⟨g, 5, none⟩) (by simp; omega)).trans ((World.cell?_alloc_old _ _ _ (by simp; omega)).trans ((World.cell?_alloc_old _ _ _ (by dsimp only; omega)).trans c6))
      have d7 : w1.cell? ⟨w.heap.size, 0, none⟩ = some (.int .i64 (z)) := (h1.cell (p := ⟨w.heap.size, 0, none⟩) (by simp; omega)).trans ((World.cell?_alloc_old _ _ _ (by simp; omega)).trans ((World.cell?_alloc_old _ _ _ (by dsimp only; omega)).trans c7))
      have d8 : w1.cell? ⟨w.heap.size, 1, none⟩ = some (.int .i64 (t)) := (h1.cell (p := ⟨w.heap.size, 1, none⟩) (by simp; omega)).trans ((World.cell?_alloc_old _ _ _ (by simp; omega)).trans ((World.cell?_alloc_old _ _ _ (by dsimp only; omega)).trans c8))
      have hb1 : Below w.heap.size w w1 := ((hb0.alloc (by omega) _).alloc (by simp; omega) _).trans (h1.mono (by simp; omega))
      clear h1 hb0 c1 c2 c3 c4 c5 c6 c7 c8 ho0 ho1 hp0 hp1
      rcases K3.out with rfl | rfl | rfl <;> cases A <;> cases B
      all_goals
        go_wp2
        go_roundw
        case rel => exact ⟨3, by omega, rfl, by rw [FL.out]; rfl, by rw [FG.out]; rfl, ⟨d1, d2, d3, d4, d5, d6⟩, ⟨d7, d8⟩, by omega, hb1⟩
        case measure => simp [intOf]
    · obtain ⟨A, hA⟩ : ∃ A, anyLt s1 s2 s3 3 = A := ⟨_, rfl⟩
      obtain ⟨B, hB⟩ : ∃ B, anyGt s1 s2 s3 3 = B := ⟨_, rfl⟩
      have HA := Lib.hid hA
      have HB := Lib.hid hB
      rw [hA, hB]
      clear hA hB
      go_wp2
      go_ret2
      exact ⟨by rw [HA.out, HB.out]; rfl, hb0⟩

theorem within_sp (s1 s2 s3 : Int) (k1 : s1 = -1 ∨ s1 = 0 ∨ s1 = 1) (k2 : s2 = -1 ∨ s2 = 0 ∨ s2 = 1) (k3 : s3 = -1 ∨ s3 = 0 ∨ s3 = 1) :
    decide ((0 ≤ s1 ∧ 0 ≤ s2 ∧ 0 ≤ s3) ∨ (s1 ≤ 0 ∧ s2 ≤ 0 ∧ s3 ≤ 0)) = (!anyLt s1 s2 s3 3 || !anyGt s1 s2 s3 3) := by
  rcases k1 with rfl | rfl | rfl <;> rcases k2 with rfl | rfl | rfl <;> rcases k3 with rfl | rfl | rfl <;> rfl
theorem within_any (x y u v a b p q : Int) (w : World) (hx : -1073741824 ≤ x ∧ x ≤ 1073741824) (hy : -1073741824 ≤ y ∧ y ≤ 1073741824) (hu : -1073741824 ≤ u ∧ u ≤ 1073741824) (hv : -1073741824 ≤ v ∧ v ≤ 1073741824) (ha : -1073741824 ≤ a ∧ a ≤ 1073741824) (hb : -1073741824 ≤ b ∧ b ≤ 1073741824) (hp : -1073741824 ≤ p ∧ p ≤ 1073741824) (hq : -1073741824 ≤ q ∧ q ≤ 1073741824) :
    Calls Try.prog 16 #[P2 x y, P2 u v, P2 a b, P2 p q] w fun e w' => e = .returned (.bool (withinV x y u v a b p q)) ∧ Below w.heap.size w w' := by
  have HB := within_is x y u v a b p q
  rw [within_sp _ _ _ (sideV_3 x y u v p q) (sideV_3 u v a b p q) (sideV_3 a b x y p q)] at HB
  have S00 := fun w => side_any x y u v a b w hx hy hu hv ha hb
  have S0 := Lib.hid S00
  clear S00
  obtain ⟨R, hR⟩ : ∃ R, anyLt (sideV x y u v p q) (sideV u v a b p q) (sideV a b x y p q) 3 = R := ⟨_, rfl⟩
  obtain ⟨L, hL⟩ : ∃ L, anyGt (sideV x y u v p q) (sideV u v a b p q) (sideV a b x y p q) 3 = L := ⟨_, rfl⟩
  obtain ⟨s0, hs0⟩ : ∃ s0, sideV x y u v a b = s0 := ⟨_, rfl⟩
  obtain ⟨b1, hb1⟩ : ∃ b1, betweenV x y u v p q = b1 := ⟨_, rfl⟩
  obtain ⟨b2, hb2⟩ : ∃ b2, betweenV u v a b p q = b2 := ⟨_, rfl⟩
  obtain ⟨b3, hb3⟩ : ∃ b3, betweenV a b x y p q = b3 := ⟨_, rfl⟩
  obtain ⟨o, ho⟩ : ∃ o, withinV x y u v a b p q = o := ⟨_, rfl⟩
  rw [hR, hL, hs0, hb1, hb2, hb3, ho] at HB
  rw [ho]
  have HO := Lib.hid HB.symm
  clear HB ho
  have S0 := S0.out
  simp only [hs0] at S0
  have S0 := Lib.hid S0
  have SS0 := fun (g : Nat) (w : World) (hg : g < w.heap.size) (hr : w.cell? ⟨g, 0, none⟩ = some (.int .i64 (x)) ∧ w.cell? ⟨g, 1, none⟩ = some (.int .i64 (y)) ∧ w.cell? ⟨g, 2, none⟩ = some (.int .i64 (u)) ∧ w.cell? ⟨g, 3, none⟩ = some (.int .i64 (v)) ∧ w.cell? ⟨g, 4, none⟩ = some (.int .i64 (a)) ∧ w.cell? ⟨g, 5, none⟩ = some (.int .i64 (b))) => sides_any x y u v a b p q g w hx hy hu hv ha hb hp hq hg hr
  simp only [hR, hL] at SS0
  have SS := Lib.hid SS0
  clear SS0
  have B10 := fun w => between_any x y u v p q w hx hy hu hv hp hq
  simp only [hb1] at B10
  have B1 := Lib.hid B10
  clear B10
  have B20 := fun w => between_any u v a b p q w hu hv ha hb hp hq
  simp only [hb2] at B20
  have B2 := Lib.hid B20
  clear B20
  have B30 := fun w => between_any a b x y p q w ha hb hx hy hp hq
  simp only [hb3] at B30
  have B3 := Lib.hid B30
  clear B30
  clear hR hL hs0 hb1 hb2 hb3 hx hy hu hv ha hb hp hq
  by_cases h0 : s0 = 0
  · have q0 : (s0 == 0) = true := by simpa using h0
    have HO1 := Lib.hid (show (b1 || b2 || b3) = o by rw [← HO.out, if_pos h0])
    clear HO h0
    go_enter Try.func16, Try.ntmps16
    go_wp2_with fail
    refine (S0.out _).mono ?_
    rintro e w1 ⟨rfl, h1⟩
    have z1 := h1.size
    simp at z1
    have hs : w.heap.size + 1 + 1 + 1 + 1 ≤ w1.heap.size := by omega
    have c1 : w1.cell? ⟨w.heap.size, 0, none⟩ = some (.int .i64 (x)) := (h1.cell (p := ⟨w.heap.size, 0, none⟩) (by simp; try omega)).trans (by first | simp | simp [go_sem])
    have c2 : w1.cell? ⟨w.heap.size, 1, none⟩ = some (.int .i64 (y)) := (h1.cell (p := ⟨w.heap.size, 1, none⟩) (by simp; try omega)).trans (by first | simp | simp [go_sem])
    have c3 : w1.cell? ⟨w.heap.size + 1, 0, none⟩ = some (.int .i64 (u)) := (h1.cell (p := ⟨w.heap.size + 1, 0, none⟩) (by simp; try omega)).trans (by first | simp | simp [go_sem])
    have c4 : w1.cell? ⟨w.heap.size + 1, 1, none⟩ = some (.int .i64 (v)) := (h1.cell (p := ⟨w.heap.size + 1, 1, none⟩) (by simp; try omega)).trans (by first | simp | simp [go_sem])
    have c5 : w1.cell? ⟨w.heap.size + 1 + 1, 0, none⟩ = some (.int .i64 (a)) := (h1.cell (p := ⟨w.heap.size + 1 + 1, 0, none⟩) (by simp; try omega)).trans (by first | simp | simp [go_sem])
    have c6 : w1.cell? ⟨w.heap.size + 1 + 1, 1, none⟩ = some (.int .i64 (b)) := (h1.cell (p := ⟨w.heap.size + 1 + 1, 1, none⟩) (by simp; try omega)).trans (by first | simp | simp [go_sem])
    have c7 : w1.cell? ⟨w.heap.size + 1 + 1 + 1, 0, none⟩ = some (.int .i64 (p)) := (h1.cell (p := ⟨w.heap.size + 1 + 1 + 1, 0, none⟩) (by simp; try omega)).trans (by first | simp | simp [go_sem])
    have c8 : w1.cell? ⟨w.heap.size + 1 + 1 + 1, 1, none⟩ = some (.int .i64 (q)) := (h1.cell (p := ⟨w.heap.size + 1 + 1 + 1, 1, none⟩) (by simp; try omega)).trans (by first | simp | simp [go_sem])
    have hb0 : Below w.heap.size w w1 := (((((Below.refl _ _).alloc (by simp; try omega) _).alloc (by simp; try omega) _).alloc (by simp; try omega) _).alloc (by simp; try omega) _).trans (h1.mono (by simp; try omega))
    clear h1 z1
    go_wp2_with fail
    refine (B1.out _).mono ?_
    rintro e w5 ⟨rfl, h5⟩
    obtain ⟨d1, d2, d3, d4, d5, d6, d7, d8, hsz, hb1⟩ := next8 (keep8 ⟨c1, c2, c3, c4, c5, c6, c7, c8, Below.refl _ _⟩ h5 (by (try dsimp only); omega) (by (try dsimp only); omega) (by (try dsimp only); omega) (by (try dsimp only); omega) (by (try dsimp only); omega) (by (try dsimp only); omega) (by (try dsimp only); omega) (by (try dsimp only); omega)) (by omega) hb0
    clear c1 c2 c3 c4 c5 c6 c7 c8 hb0 h5
    have c1 := d1
    clear d1
    have c2 := d2
    clear d2
    have c3 := d3
    clear d3
    have c4 := d4
    clear d4
    have c5 := d5
    clear d5
    have c6 := d6
    clear d6
    have c7 := d7
    clear d7
    have c8 := d8
    clear d8
    have hb0 := hb1
    clear hb1
    replace hs := Nat.le_trans hs hsz
    clear hsz
    cases b1
    · go_wp2_with fail
      refine (B2.out _).mono ?_
      rintro e w6 ⟨rfl, h6⟩
      obtain ⟨d1, d2, d3, d4, d5, d6, d7, d8, hsz, hb1⟩ := next8 (keep8 ⟨c1, c2, c3, c4, c5, c6, c7, c8, Below.refl _ _⟩ h6 (by (try dsimp only); omega) (by (try dsimp only); omega) (by (try dsimp only); omega) (by (try dsimp only); omega) (by (try dsimp only); omega) (by (try dsimp only); omega) (by (try dsimp only); omega) (by (try dsimp only); omega)) (by omega) hb0
      clear c1 c2 c3 c4 c5 c6 c7 c8 hb0 h6
      have c1 := d1
      clear d1
      have c2 := d2
      clear d2
      have c3 := d3
      clear d3
      have c4 := d4
      clear d4
      have c5 := d5
      clear d5
      have c6 := d6
      clear d6
      have c7 := d7
      clear d7
      have c8 := d8
      clear d8
      have hb0 := hb1
      clear hb1
      replace hs := Nat.le_trans hs hsz
      clear hsz
      cases b2
      · go_wp2_with fail
        refine (B3.out _).mono ?_
        rintro e w7 ⟨rfl, h7⟩
        have hb0 := hb0.trans (h7.mono (by omega))
        go_wp2
        go_ret
        exact ⟨by rw [← HO1.out]; rfl, hb0⟩
      · go_wp2
        go_ret
        exact ⟨by rw [← HO1.out]; rfl, hb0⟩
    · go_wp2
      go_ret
      exact ⟨by rw [← HO1.out]; rfl, hb0⟩
  · have q0 : (s0 == 0) = false := by simpa using h0
    have HO1 := Lib.hid (show (!R || !L) = o by rw [← HO.out, if_neg h0])
    clear HO h0
    go_enter Try.func16, Try.ntmps16
    go_wp2_with fail
    refine (S0.out _).mono ?_
    rintro e w1 ⟨rfl, h1⟩
    have z1 := h1.size
    simp at z1
    have hs : w.heap.size + 1 + 1 + 1 + 1 ≤ w1.heap.size := by omega
    have c1 : w1.cell? ⟨w.heap.size, 0, none⟩ = some (.int .i64 (x)) := (h1.cell (p := ⟨w.heap.size, 0, none⟩) (by simp; try omega)).trans (by first | simp | simp [go_sem])
    have c2 : w1.cell? ⟨w.heap.size, 1, none⟩ = some (.int .i64 (y)) := (h1.cell (p := ⟨w.heap.size, 1, none⟩) (by simp; try omega)).trans (by first | simp | simp [go_sem])
    have c3 : w1.cell? ⟨w.heap.size + 1, 0, none⟩ = some (.int .i64 (u)) := (h1.cell (p := ⟨w.heap.size + 1, 0, none⟩) (by simp; try omega)).trans (by first | simp | simp [go_sem])
    have c4 : w1.cell? ⟨w.heap.size + 1, 1, none⟩ = some (.int .i64 (v)) := (h1.cell (p := ⟨w.heap.size + 1, 1, none⟩) (by simp; try omega)).trans (by first | simp | simp [go_sem])
    have c5 : w1.cell? ⟨w.heap.size + 1 + 1, 0, none⟩ = some (.int .i64 (a)) := (h1.cell (p := ⟨w.heap.size + 1 + 1, 0, none⟩) (by simp; try omega)).trans (by first | simp | simp [go_sem])
    have c6 : w1.cell? ⟨w.heap.size + 1 + 1, 1, none⟩ = some (.int .i64 (b)) := (h1.cell (p := ⟨w.heap.size + 1 + 1, 1, none⟩) (by simp; try omega)).trans (by first | simp | simp [go_sem])
    have c7 : w1.cell? ⟨w.heap.size + 1 + 1 + 1, 0, none⟩ = some (.int .i64 (p)) := (h1.cell (p := ⟨w.heap.size + 1 + 1 + 1, 0, none⟩) (by simp; try omega)).trans (by first | simp | simp [go_sem])
    have c8 : w1.cell? ⟨w.heap.size + 1 + 1 + 1, 1, none⟩ = some (.int .i64 (q)) := (h1.cell (p := ⟨w.heap.size + 1 + 1 + 1, 1, none⟩) (by simp; try omega)).trans (by first | simp | simp [go_sem])
    have hb0 : Below w.heap.size w w1 := (((((Below.refl _ _).alloc (by simp; try omega) _).alloc (by simp; try omega) _).alloc (by simp; try omega) _).alloc (by simp; try omega) _).trans (h1.mono (by simp; try omega))
    clear h1 z1
    go_wp2_with fail
    refine (SS.out _ _ (by simp) ⟨by simp [go_sem], by simp [go_sem], by simp [go_sem], by simp [go_sem], by simp [go_sem], by simp [go_sem]⟩).mono ?_
    rintro e w2 ⟨rfl, h2⟩
    have hb1 := hb0.trans ((Below.alloc (Below.refl _ _) (Nat.le_refl _) _).trans (h2.mono (by simp)) |>.mono (by first | exact hb0.size | simp))
    clear hb0 h2
    cases R <;> cases L
    all_goals
      go_wp2
      go_ret
      exact ⟨by rw [← HO1.out]; rfl, hb1⟩

end Go.Proofs.Ytfgkndfcddnhlaa
