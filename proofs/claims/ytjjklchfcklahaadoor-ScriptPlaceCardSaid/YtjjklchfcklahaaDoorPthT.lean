/- What verbs take: the program's own table, and what is read off it. -/
import Derived.Test.YtjjklchfcklahaaDoorRef7
import Derived.Test.YtjjklchfcklahaaDoorRef7B
import Derived.Test.YtjjklchfcklahaaDoorRef7C
import Derived.Lib.LaidTab
import Derived.Lib.AppendIntMem
namespace Go.Proofs.YtjjklchfcklahaaDoor
open Go.RowKit
set_option linter.unusedVariables false
set_option linter.unusedSimpArgs false
set_option maxHeartbeats 4000000
set_option maxRecDepth 100000

/-- The table of what verbs take is as the program's own text lays it. -/
def Tab7 (w : World) : Prop := Lib.TabIs Tryd.prog w "ductus/path.takes" .i64 [-1, 1, 1, 2, 3, 0]
theorem Tab7.step {w w' : World} (h : Tab7 w) (hb : Below w.heap.size w w') : Tab7 w' := (Lib.tabBelow_of_tabIs h) w' hb
theorem Tab7.cell {w : World} (h : Tab7 w) (i : Nat) (hi : i < 6) : w.cell? ⟨1, i, none⟩ = some (.int .i64 (([-1, 1, 1, 2, 3, 0] : List Int).getD i 0)) :=
  Lib.TabIs.cell h (by kernel_rfl) i hi

theorem q7takes_any (v : Int) (w : World) (hT : Tab7 w) :
    Calls Tryd.prog 17 #[.int .i64 v] w fun e w' => e = .returned (.int .i64 (takesV v)) ∧ Below w.heap.size w w' := by
  by_cases h0 : v < 0
  · have F := Lib.hid (show takesV v = -1 by unfold takesV; rw [if_neg (by omega), if_neg (by omega), if_neg (by omega), if_neg (by omega)])
    have q1 : decide (v < 0) = true := by simpa using h0
    go_enter Tryd.func17, Tryd.ntmps17
    go_wp2
    go_ret
    exact ⟨by rw [F.out]; rfl, Below.refl _ _⟩
  · have q1 : decide (v < 0) = false := by simpa using h0
    by_cases h6 : 6 ≤ v
    · have F := Lib.hid (show takesV v = -1 by unfold takesV; rw [if_neg (by omega), if_neg (by omega), if_neg (by omega), if_neg (by omega)])
      have q2 : decide (6 ≤ v) = true := by simpa using h6
      have q3 : decide (v ≥ 6) = true := by simpa using h6
      go_enter Tryd.func17, Tryd.ntmps17
      go_wp2
      go_ret
      exact ⟨by rw [F.out]; rfl, Below.refl _ _⟩
    · have q2 : decide (6 ≤ v) = false := by simpa using h6
      have q3 : decide (v ≥ 6) = false := by simpa using h6
      obtain ⟨n, rfl⟩ := Int.eq_ofNat_of_zero_le (show 0 ≤ v by omega)
      obtain ⟨k, hk⟩ : ∃ k, takesV (n : Int) = k := ⟨_, rfl⟩
      have hg : (([-1, 1, 1, 2, 3, 0] : List Int).getD n 0) = k := by
        rw [← hk]
        match n, h6 with
        | 0, _ => rfl
        | 1, _ => rfl
        | 2, _ => rfl
        | 3, _ => rfl
        | 4, _ => rfl
        | 5, _ => rfl
        | m + 6, h => exact absurd (by omega) h
      have c := hT.cell n (by omega)
      rw [hg] at c
      have F := Lib.hid hk
      have q4 : (0 : Int) ≤ (n : Int) := by omega
      have q5 : (n : Int) < 6 := by omega
      clear hk hg hT
      go_enter Tryd.func17, Tryd.ntmps17
      go_wp2
      go_ret
      exact ⟨by rw [F.out]; rfl, Below.refl _ _⟩

theorem q7far_any (x y : Int) (w : World) :
    Calls Tryd.prog 31 #[P2 x y] w fun e w' => e = .returned (.bool (farV (x, y))) ∧ Below w.heap.size w w' := by
  obtain ⟨M, hM⟩ : ∃ M, max x y = M := ⟨_, rfl⟩
  obtain ⟨m, hm⟩ : ∃ m, min x y = m := ⟨_, rfl⟩
  have g1 : (if x < y then y else x) = M := by split <;> omega
  have g2 : (if y < x then x else y) = M := by split <;> omega
  have g3 : (if y < x then y else x) = m := by split <;> omega
  have g4 : (if x < y then x else y) = m := by split <;> omega
  by_cases h1 : 268435456 < M
  · have F := Lib.hid (show farV (x, y) = true by unfold farV; simp; omega)
    have q1 : decide (268435456 < M) = true := by simpa using h1
    have q2 : decide (M > 268435456) = true := by simpa using h1
    rw [F.out]
    go_enter Tryd.func31, Tryd.ntmps31
    go_wp2
    go_ret
    exact ⟨rfl, (Below.refl _ _).alloc (Nat.le_refl _) _⟩
  · have q1 : decide (268435456 < M) = false := by simpa using h1
    have q2 : decide (M > 268435456) = false := by simpa using h1
    by_cases h2 : m < -268435456
    · have F := Lib.hid (show farV (x, y) = true by unfold farV; simp; omega)
      have q3 : decide (m < -268435456) = true := by simpa using h2
      rw [F.out]
      go_enter Tryd.func31, Tryd.ntmps31
      go_wp2
      go_ret
      exact ⟨rfl, (Below.refl _ _).alloc (Nat.le_refl _) _⟩
    · have F := Lib.hid (show farV (x, y) = false by unfold farV; simp; omega)
      have q3 : decide (m < -268435456) = false := by simpa using h2
      rw [F.out]
      go_enter Tryd.func31, Tryd.ntmps31
      go_wp2
      go_ret
      exact ⟨rfl, (Below.refl _ _).alloc (Nat.le_refl _) _⟩

end Go.Proofs.YtjjklchfcklahaaDoor
