/- The small case that all statements of layer 4 show. -/
import Derived.Test.YtmdhlkdeadfgdaaVec
namespace Go.Proofs.Ytmdhlkdeadfgdaa
open Go.RowKit
set_option linter.unusedVariables false
set_option linter.unusedSimpArgs false
set_option maxHeartbeats 4000000
set_option maxRecDepth 100000

theorem below2 {w w1 w2 : World} (h1 : Below w.heap.size w w1) (h2 : Below w1.heap.size w1 w2) : Below w.heap.size w w2 := h1.trans (h2.mono h1.size)
theorem vlen_34 : lenN 3 4 = 5 := by unfold lenN; exact rt_sq 5
theorem show_norm : normX 3 4 10 = 6 ∧ normY 3 4 10 = 8 := by
  unfold normX normY; rw [vlen_34]; decide
theorem show_near : nearB 5 5 = true := by decide
theorem shown_any (w : World) :
    Calls Try.prog 10 #[] w fun e w' => e = .returned (.bool true) ∧ Below w.heap.size w w' := by
  have N0 := fun w => vnorm_any 3 4 10 w (by omega) (by omega) (by omega)
  rw [show_norm.1, show_norm.2] at N0
  have N1 := Lib.hid N0
  have Q0 := fun w => vnear_any 5 5 w
  rw [show_near] at Q0
  have Q1 := Lib.hid Q0
  clear N0 Q0
  go_enter Try.func10, Try.ntmps10
  go_wp2_with fail
  refine (N1.out _).mono ?_
  rintro e w1 ⟨rfl, h1⟩
  go_wp2_with fail
  refine (vleft_any 1 0 _ (by omega) (by omega)).mono ?_
  rintro e w2 ⟨rfl, h2⟩
  go_wp2_with fail
  refine (Q1.out _).mono ?_
  rintro e w3 ⟨rfl, h3⟩
  go_wp2
  go_ret
  exact ⟨rfl, below2 (below2 h1 h2) h3⟩

/-- A number is far. -/
def farB (n : Int) : Bool := decide (1073741824 < n ∨ n < -1073741824)
theorem far_any (n : Int) (w : World) :
    Calls Try.prog 11 #[.int .i64 n] w fun e w' => e = .returned (.bool (farB n)) ∧ Below w.heap.size w w' := by
  obtain ⟨b, hb⟩ : ∃ b, farB n = b := ⟨_, rfl⟩
  rw [hb]
  by_cases h1 : 1073741824 < n
  · have q1 : decide (1073741824 < n) = true := by simpa using h1
    have F := Lib.hid (show true = b by rw [← hb]; unfold farB; simp; omega)
    clear hb
    go_enter Try.func11, Try.ntmps11
    go_wp2
    go_ret
    exact ⟨by rw [← F.out]; rfl, Below.refl _ _⟩
  · have q1 : decide (1073741824 < n) = false := by simpa using h1
    have F := Lib.hid (show decide (n < -1073741824) = b by rw [← hb]; unfold farB; rw [decide_eq_decide]; omega)
    clear hb
    by_cases h2 : n < -1073741824
    all_goals
      go_enter Try.func11, Try.ntmps11
      go_wp2
      go_ret
      exact ⟨by rw [← F.out]; simp [*], Below.refl _ _⟩

end Go.Proofs.Ytmdhlkdeadfgdaa
