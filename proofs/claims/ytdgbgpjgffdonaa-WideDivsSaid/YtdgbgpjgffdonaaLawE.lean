/- The walk of WideDivs. -/
import Derived.Test.YtdgbgpjgffdonaaLawA
import Derived.Test.YtdgbgpjgffdonaaRefB
import Derived.Test.YtdgbgpjgffdonaaRefC
namespace Go.Proofs.Ytdgbgpjgffdonaa
open Go.RowKit
set_option linter.unusedVariables false
set_option linter.unusedSimpArgs false
set_option maxHeartbeats 2000000

theorem rdiv_any (a b : Int) (w : World) (ia : In a) (hb : 1 ≤ b ∧ b ≤ 9223372036854775807) :
    Calls Try.prog 23 #[W a, .int .i64 b] w fun e w' => e = .returned (.tuple #[W (a / b), .int .i64 (a % b), .int .i64 0]) ∧ Below w.heap.size w w' := by
  obtain ⟨b, rfl⟩ := Int.eq_ofNat_of_zero_le (show 0 ≤ b by omega)
  by_cases h : 0 ≤ a
  · obtain ⟨A, hA⟩ := Int.eq_ofNat_of_zero_le h
    exact rdiv_pos a b A w ia (by omega) h hA
  · obtain ⟨A, hA⟩ := Int.eq_ofNat_of_zero_le (show 0 ≤ -a by omega)
    exact rdiv_neg a b A w ia (by omega) (by omega) hA

/-- What Narrow tells, by its two parts. -/
theorem narrow_parts (a : Int) : ∃ n b, narrowV a = .tuple #[.int .i64 n, .bool b] := by
  unfold narrowV; split
  · exact ⟨_, _, rfl⟩
  · exact ⟨_, _, rfl⟩

theorem divs_yes (a b : Int) (w : World) (ia : In a) (hb : 1 ≤ b ∧ b ≤ 9223372036854775807) :
    Calls Try.prog 4 #[W a, .int .i64 b] w fun e w' => e = .returned (.bool true) ∧ Below w.heap.size w w' := by
  obtain ⟨n, p, hp⟩ := narrow_parts a
  have Hp := Lib.hid hp
  clear hp
  go_enter Try.func4, Try.ntmps4
  go_wp2_with fail
  refine (div_any a b _ ia hb).mono ?_
  rintro e w1 ⟨rfl, h1⟩
  have c1 : w1.cell? ⟨w.heap.size, 0, none⟩ = some (.int .i64 (hi a)) := (h1.cell (p := ⟨w.heap.size, 0, none⟩) (by simp)).trans (by simp)
  have c2 : w1.cell? ⟨w.heap.size, 1, none⟩ = some (.int .u64 (lo a)) := (h1.cell (p := ⟨w.heap.size, 1, none⟩) (by simp)).trans (by simp)
  have hs : w.heap.size < w1.heap.size := by have := h1.size; simp at this; omega
  have hb0 : Below w.heap.size w w1 := ((Below.refl _ _).alloc (by simp) _).trans (h1.mono (by simp))
  clear h1
  go_wp2_with fail
  refine (rdiv_any a b _ ia hb).mono ?_
  rintro e w2 ⟨rfl, h2⟩
  have d1 := (h2.cell (p := ⟨w.heap.size, 0, none⟩) (by simp; omega)).trans ((World.cell?_alloc_old _ _ _ (by dsimp only; omega)).trans c1)
  have d2 := (h2.cell (p := ⟨w.heap.size, 1, none⟩) (by simp; omega)).trans ((World.cell?_alloc_old _ _ _ (by dsimp only; omega)).trans c2)
  have d3 : w2.cell? ⟨w1.heap.size, 0, none⟩ = some (.int .i64 (hi ((a / b)))) := (h2.cell (p := ⟨w1.heap.size, 0, none⟩) (by simp)).trans (by simp [hi_0])
  have d4 : w2.cell? ⟨w1.heap.size, 1, none⟩ = some (.int .u64 (lo ((a / b)))) := (h2.cell (p := ⟨w1.heap.size, 1, none⟩) (by simp)).trans (by simp [lo_0])
  have hs2 : w1.heap.size < w2.heap.size := by have := h2.size; simp at this; omega
  have hb2 := (hb0.alloc (by omega) _).trans (h2.mono (by simp; omega))
  clear h2 c1 c2 hb0
  have n1 : ¬ w.heap.size = w2.heap.size := by omega
  have n2 : ¬ w1.heap.size = w2.heap.size := by omega
  have hs3 : w.heap.size < w2.heap.size := by omega
  go_wp2_with fail
  refine (narrow_any a _ ia).mono ?_
  rintro e w3 ⟨rfl, h3⟩
  rw [Hp.out]
  obtain ⟨g1, hg1⟩ : ∃ g, w1.heap.size = g := ⟨_, rfl⟩
  obtain ⟨g2, hg2⟩ : ∃ g, w2.heap.size = g := ⟨_, rfl⟩
  have x1 := (h3.cell (p := ⟨w.heap.size, 0, none⟩) (by simp; omega)).trans ((World.cell?_alloc_old _ _ _ (by dsimp only; omega)).trans d1)
  have x2 := (h3.cell (p := ⟨w.heap.size, 1, none⟩) (by simp; omega)).trans ((World.cell?_alloc_old _ _ _ (by dsimp only; omega)).trans d2)
  have x3 := (h3.cell (p := ⟨w1.heap.size, 0, none⟩) (by simp; omega)).trans ((World.cell?_alloc_old _ _ _ (by dsimp only; omega)).trans d3)
  have x4 := (h3.cell (p := ⟨w1.heap.size, 1, none⟩) (by simp; omega)).trans ((World.cell?_alloc_old _ _ _ (by dsimp only; omega)).trans d4)
  have x5 : w3.cell? ⟨w2.heap.size, 0, none⟩ = some (.int .i64 (hi ((a / b)))) := (h3.cell (p := ⟨w2.heap.size, 0, none⟩) (by simp)).trans (by simp [hi_0])
  have x6 : w3.cell? ⟨w2.heap.size, 1, none⟩ = some (.int .u64 (lo ((a / b)))) := (h3.cell (p := ⟨w2.heap.size, 1, none⟩) (by simp)).trans (by simp [lo_0])
  have hz3 : w2.heap.size < w3.heap.size := by have := h3.size; simp at this; omega
  have hb3 := (hb2.alloc (by omega) _).trans (h3.mono (by simp; omega))
  clear h3 d1 d2 d3 d4 hb2 n1 n2
  rw [hg1] at x3 x4 hs2
  rw [hg2] at x5 x6 hz3 hs2 hs3
  rw [hg1, hg2]
  clear hg1 hg2
  go_wp2_with fail
  refine (rnarrow_any a _ ia).mono ?_
  rintro e w4 ⟨rfl, h4⟩
  rw [Hp.out]
  have y3 := (h4.cell (p := ⟨g1, 0, none⟩) (by dsimp only; omega)).trans x3
  have y4 := (h4.cell (p := ⟨g1, 1, none⟩) (by dsimp only; omega)).trans x4
  have y5 := (h4.cell (p := ⟨g2, 0, none⟩) (by dsimp only; omega)).trans x5
  have y6 := (h4.cell (p := ⟨g2, 1, none⟩) (by dsimp only; omega)).trans x6
  have hb4 := hb3.trans (h4.mono (by omega))
  have hz4 := h4.size
  clear x1 x2 x3 x4 x5 x6 hb3 h4
  go_wp2_with fail
  refine (shown_any _).mono ?_
  rintro e w5 ⟨rfl, h5⟩
  go_wp2
  go_ret
  exact ⟨rfl, hb4.trans (h5.mono (by omega))⟩

theorem divs_no (a b : Int) (w : World) (ia : In a) (hb : b ≤ 0) :
    Calls Try.prog 4 #[W a, .int .i64 b] w fun e w' => e = .returned (.bool true) ∧ Below w.heap.size w w' := by
  obtain ⟨n, p, hp⟩ := narrow_parts a
  have Hp := Lib.hid hp
  clear hp
  go_enter Try.func4, Try.ntmps4
  go_wp2_with fail
  refine (div_err a b _ hb).mono ?_
  rintro e w1 ⟨rfl, h1⟩
  have c1 : w1.cell? ⟨w.heap.size, 0, none⟩ = some (.int .i64 (hi a)) := (h1.cell (p := ⟨w.heap.size, 0, none⟩) (by simp)).trans (by simp)
  have c2 : w1.cell? ⟨w.heap.size, 1, none⟩ = some (.int .u64 (lo a)) := (h1.cell (p := ⟨w.heap.size, 1, none⟩) (by simp)).trans (by simp)
  have hs : w.heap.size < w1.heap.size := by have := h1.size; simp at this; omega
  have hb0 : Below w.heap.size w w1 := ((Below.refl _ _).alloc (by simp) _).trans (h1.mono (by simp))
  clear h1
  go_wp2_with fail
  refine (rdiv_err a b _ hb).mono ?_
  rintro e w2 ⟨rfl, h2⟩
  have d1 := (h2.cell (p := ⟨w.heap.size, 0, none⟩) (by simp; omega)).trans ((World.cell?_alloc_old _ _ _ (by dsimp only; omega)).trans c1)
  have d2 := (h2.cell (p := ⟨w.heap.size, 1, none⟩) (by simp; omega)).trans ((World.cell?_alloc_old _ _ _ (by dsimp only; omega)).trans c2)
  have d3 : w2.cell? ⟨w1.heap.size, 0, none⟩ = some (.int .i64 (hi (0))) := (h2.cell (p := ⟨w1.heap.size, 0, none⟩) (by simp)).trans (by simp [hi_0])
  have d4 : w2.cell? ⟨w1.heap.size, 1, none⟩ = some (.int .u64 (lo (0))) := (h2.cell (p := ⟨w1.heap.size, 1, none⟩) (by simp)).trans (by simp [lo_0])
  have hs2 : w1.heap.size < w2.heap.size := by have := h2.size; simp at this; omega
  have hb2 := (hb0.alloc (by omega) _).trans (h2.mono (by simp; omega))
  clear h2 c1 c2 hb0
  have n1 : ¬ w.heap.size = w2.heap.size := by omega
  have n2 : ¬ w1.heap.size = w2.heap.size := by omega
  have hs3 : w.heap.size < w2.heap.size := by omega
  go_wp2_with fail
  refine (narrow_any a _ ia).mono ?_
  rintro e w3 ⟨rfl, h3⟩
  rw [Hp.out]
  obtain ⟨g1, hg1⟩ : ∃ g, w1.heap.size = g := ⟨_, rfl⟩
  obtain ⟨g2, hg2⟩ : ∃ g, w2.heap.size = g := ⟨_, rfl⟩
  have x1 := (h3.cell (p := ⟨w.heap.size, 0, none⟩) (by simp; omega)).trans ((World.cell?_alloc_old _ _ _ (by dsimp only; omega)).trans d1)
  have x2 := (h3.cell (p := ⟨w.heap.size, 1, none⟩) (by simp; omega)).trans ((World.cell?_alloc_old _ _ _ (by dsimp only; omega)).trans d2)
  have x3 := (h3.cell (p := ⟨w1.heap.size, 0, none⟩) (by simp; omega)).trans ((World.cell?_alloc_old _ _ _ (by dsimp only; omega)).trans d3)
  have x4 := (h3.cell (p := ⟨w1.heap.size, 1, none⟩) (by simp; omega)).trans ((World.cell?_alloc_old _ _ _ (by dsimp only; omega)).trans d4)
  have x5 : w3.cell? ⟨w2.heap.size, 0, none⟩ = some (.int .i64 (hi (0))) := (h3.cell (p := ⟨w2.heap.size, 0, none⟩) (by simp)).trans (by simp [hi_0])
  have x6 : w3.cell? ⟨w2.heap.size, 1, none⟩ = some (.int .u64 (lo (0))) := (h3.cell (p := ⟨w2.heap.size, 1, none⟩) (by simp)).trans (by simp [lo_0])
  have hz3 : w2.heap.size < w3.heap.size := by have := h3.size; simp at this; omega
  have hb3 := (hb2.alloc (by omega) _).trans (h3.mono (by simp; omega))
  clear h3 d1 d2 d3 d4 hb2 n1 n2
  rw [hg1] at x3 x4 hs2
  rw [hg2] at x5 x6 hz3 hs2 hs3
  rw [hg1, hg2]
  clear hg1 hg2
  go_wp2_with fail
  refine (rnarrow_any a _ ia).mono ?_
  rintro e w4 ⟨rfl, h4⟩
  rw [Hp.out]
  have y3 := (h4.cell (p := ⟨g1, 0, none⟩) (by dsimp only; omega)).trans x3
  have y4 := (h4.cell (p := ⟨g1, 1, none⟩) (by dsimp only; omega)).trans x4
  have y5 := (h4.cell (p := ⟨g2, 0, none⟩) (by dsimp only; omega)).trans x5
  have y6 := (h4.cell (p := ⟨g2, 1, none⟩) (by dsimp only; omega)).trans x6
  have hb4 := hb3.trans (h4.mono (by omega))
  have hz4 := h4.size
  clear x1 x2 x3 x4 x5 x6 hb3 h4
  go_wp2_with fail
  refine (shown_any _).mono ?_
  rintro e w5 ⟨rfl, h5⟩
  go_wp2
  go_ret
  exact ⟨rfl, hb4.trans (h5.mono (by omega))⟩

theorem walk_WideDivs (a b : Int) (w : World) (ia : In a) (hb : -9223372036854775808 ≤ b ∧ b ≤ 9223372036854775807) :
    Calls Try.prog 4 #[W a, .int .i64 b] w fun e w' => e = .returned (.bool true) ∧ Below w.heap.size w w' := by
  by_cases h : b ≤ 0
  · exact divs_no a b w ia h
  · exact divs_yes a b w ia (by omega)
end Go.Proofs.Ytdgbgpjgffdonaa
