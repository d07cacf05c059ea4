/- What verbs take: the program's own table, and what is read off it. -/
import Derived.Test.YtalgmnnimfenpaaDoorRef7
import Derived.Test.YtalgmnnimfenpaaDoorRef7B
import Derived.Test.YtalgmnnimfenpaaDoorRef7C
import Derived.Lib.LaidTab
import Derived.Lib.AppendIntMem
namespace Go.Proofs.YtalgmnnimfenpaaDoor
open Go.RowKit
set_option linter.unusedVariables false
set_option linter.unusedSimpArgs false
set_option maxHeartbeats 4000000
set_option maxRecDepth 100000

/-- The table of what verbs take is as the program's own text lays it. -/
def Tab7 (w : World) : Prop := Lib.TabIs Tryd.prog w "ductus/path.takes" .i64 [-1, 1, 1, 2, 3, 0]
theorem Tab7.step {w w' : World} (h : Tab7 w) (hb : Below w.heap.size w w') : Tab7 w' := (Lib.tabBelow_of_tabIs h) w' hb
theorem Tab7.cell {w : World} (h : Tab7 w) (i : Nat) (hi : i < 6) : w.cell? ⟨0, i, none⟩ = some (.int .i64 (([-1, 1, 1, 2, 3, 0] : List Int).getD i 0)) :=
  Lib.TabIs.cell h (by kernel_rfl) i hi

theorem q7takes_any (v : Int) (w : World) (hT : Tab7 w) :
    Calls Tryd.prog 14 #[.int .i64 v] w fun e w' => e = .returned (.int .i64 (takesV v)) ∧ Below w.heap.size w w' := by
  by_cases h0 : v < 0
  · have F := Lib.hid (show takesV v = -1 by unfold takesV; rw [if_neg (by omega), if_neg (by omega), if_neg (by omega), if_neg (by omega)])
    have q1 : decide (v < 0) = true := by simpa using h0
    go_enter Tryd.func14, Tryd.ntmps14
    go_wp2
    go_ret
    exact ⟨by rw [F.out]; rfl, Below.refl _ _⟩
  · have q1 : decide (v < 0) = false := by simpa using h0
    by_cases h6 : 6 ≤ v
    · have F := Lib.hid (show takesV v = -1 by unfold takesV; rw [if_neg (by omega), if_neg (by omega), if_neg (by omega), if_neg (by omega)])
      have q2 : decide (6 ≤ v) = true := by simpa using h6
      have q3 : decide (v ≥ 6) = true := by simpa using h6
      go_enter Tryd.func14, Tryd.ntmps14
      go_wp2
      go_ret
      exact ⟨by rw [F.out]; rfl, Below.refl _ _⟩
    · have q2 : decide (6 ≤ v) = false := by simpa using h6
      have q3 : decide (v ≥ 6) = false := by simpa using h6
      obtain ⟨n, rfl⟩ := Int.eq_ofNat_of_zero_le (show 0 ≤ v by omega)
      obtain ⟨k, hk⟩ : ∃ k, takesV (n : Int) = k := ⟨_, rfl⟩
      have hg : (([-1, 1, 1, 2, 3, 0] : List Int).getD n 0) = k := by
        rw [← hk]
        match n, h6 with
        | 0, _ => rfl
        | 1, _ => rfl
        | 2, _ => rfl
        | 3, _ => rfl
        | 4, _ => rfl
        | 5, _ => rfl
        | m + 6, h => exact absurd (by omega) h
      have c := hT.cell n (by omega)
      rw [hg] at c
      have F := Lib.hid hk
      have q4 : (0 : Int) ≤ (n : Int) := by omega
      have q5 : (n : Int) < 6 := by omega
      clear hk hg hT
      go_enter Tryd.func14, Tryd.ntmps14
      go_wp2
      go_ret
      exact ⟨by rw [F.out]; rfl, Below.refl _ _⟩

theorem q7far_any (x y : Int) (w : World) :
    Calls Tryd.prog 35 #[P2 x y] w fun e w' => e = .returned (.bool (farV (x, y))) ∧ Below w.heap.size w w' := by
  obtain ⟨M, hM⟩ : ∃ M, max x y = M := ⟨_, rfl⟩
  obtain ⟨m, hm⟩ : ∃ m, min x y = m := ⟨_, rfl⟩
  have g1 : (if x < y then y else x) = M := by split <;> omega
  have g2 : (if y < x then x else y) = M := by split <;> omega
  have g3 : (if y < x then y else x) = m := by split <;> omega
  have g4 : (if x < y then x else y) = m := by split <;> omega
  by_cases h1 : 268435456 < M
  · have F := Lib.hid (show farV (x, y) = true by unfold farV; simp; omega)
    have q1 : decide (268435456 < M) = true := by simpa using h1
    have q2 : decide (M > 268435456) = true := by simpa using h1
    rw [F.out]
    go_enter Tryd.func35, Tryd.ntmps35
    go_wp2
    go_ret
    exact ⟨rfl, (Below.refl _ _).alloc (Nat.le_refl _) _⟩
  · have q1 : decide (268435456 < M) = false := by simpa using h1
    have q2 : decide (M > 268435456) = false := by simpa using h1
    by_cases h2 : m < -268435456
    · have F := Lib.hid (show farV (x, y) = true by unfold farV; simp; omega)
      have q3 : decide (m < -268435456) = true := by simpa using h2
      rw [F.out]
      go_enter Tryd.func35, Tryd.ntmps35
      go_wp2
      go_ret
      exact ⟨rfl, (Below.refl _ _).alloc (Nat.le_refl _) _⟩
    · have F := Lib.hid (show farV (x, y) = false by unfold farV; simp; omega)
      have q3 : decide (m < -268435456) = false := by simpa using h2
      rw [F.out]
      go_enter Tryd.func35, Tryd.ntmps35
      go_wp2
      go_ret
      exact ⟨rfl, (Below.refl _ _).alloc (Nat.le_refl _) _⟩

/-- What draws a segment of n points. -/
def verbV (n : Int) : Int := if n = 2 then 2 else if n = 3 then 3 else if n = 4 then 4 else 0
theorem q7verb_any (n : Int) (w : World) :
    Calls Tryd.prog 39 #[.int .i64 n] w fun e w' => e = .returned (.int .i64 (verbV n)) ∧ Below w.heap.size w w' := by
  by_cases h2 : n = 2
  · subst h2
    go_enter Tryd.func39, Tryd.ntmps39
    go_wp2
    go_ret
    exact ⟨rfl, Below.refl _ _⟩
  · by_cases h3 : n = 3
    · subst h3
      go_enter Tryd.func39, Tryd.ntmps39
      go_wp2
      go_ret
      exact ⟨rfl, Below.refl _ _⟩
    · by_cases h4 : n = 4
      · subst h4
        go_enter Tryd.func39, Tryd.ntmps39
        go_wp2
        go_ret
        exact ⟨rfl, Below.refl _ _⟩
      · have F := Lib.hid (show verbV n = 0 by unfold verbV; rw [if_neg h2, if_neg h3, if_neg h4])
        have q2 : (n == 2) = false := by simpa using h2
        have q3 : (n == 3) = false := by simpa using h3
        have q4 : (n == 4) = false := by simpa using h4
        go_enter Tryd.func39, Tryd.ntmps39
        go_wp2
        go_ret
        exact ⟨by rw [F.out]; rfl, Below.refl _ _⟩

/-- How many points a segment has. -/
def cnt7 (n : Int) : Nat := if n ≤ 2 then 2 else if n = 3 then 3 else 4
theorem cnt7_is (n : Int) : (n ≤ 2 ∧ cnt7 n = 2) ∨ (n = 3 ∧ cnt7 n = 3) ∨ (4 ≤ n ∧ cnt7 n = 4) := by
  unfold cnt7
  split
  · exact .inl ⟨by assumption, rfl⟩
  · split
    · exact .inr (.inl ⟨by assumption, rfl⟩)
    · exact .inr (.inr ⟨by omega, rfl⟩)
theorem q7count_any (a b c d e f g h n : Int) (w : World) :
    Calls Tryd.prog 37 #[G9 a b c d e f g h n] w fun z w' => z = .returned (.int .i64 (cnt7 n)) ∧ Below w.heap.size w w' := by
  obtain ⟨X, hX⟩ : ∃ X : Int, (cnt7 n : Int) = X := ⟨_, rfl⟩
  obtain ⟨m, hm⟩ : ∃ m, min n 4 = m := ⟨_, rfl⟩
  have hc := cnt7_is n
  have g1 : (if n < 4 then n else 4) = m := by split <;> omega
  have g2 : (if 4 < n then 4 else n) = m := by split <;> omega
  have g3 : (if 2 < m then m else 2) = X := by split <;> omega
  have g4 : (if m < 2 then 2 else m) = X := by split <;> omega
  have g5 : max 2 m = X := by omega
  rw [hX]
  clear hc hX
  go_enter Tryd.func37, Tryd.ntmps37
  go_wp2
  go_ret
  exact ⟨rfl, (Below.refl _ _).alloc (Nat.le_refl _) _⟩
end Go.Proofs.YtalgmnnimfenpaaDoor
