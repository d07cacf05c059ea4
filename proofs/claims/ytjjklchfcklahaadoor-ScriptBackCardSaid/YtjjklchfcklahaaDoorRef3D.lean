/- What the document's own parsing of parts asks of its helpers: digit, checked. -/
import Derived.Test.YtjjklchfcklahaaDoorRef3B
namespace Go.Proofs.YtjjklchfcklahaaDoor
open Go.RowKit
set_option linter.unusedVariables false
set_option linter.unusedSimpArgs false
set_option maxHeartbeats 2000000

/-- Is the byte a digit? -/
def digB (c : Int) : Bool := decide (48 ≤ c) && decide (c ≤ 57)
theorem rdigit_any (c : Int) (w : World) (hc : 0 ≤ c ∧ c ≤ 255) :
    Calls Tryd.prog 45 #[.int .u8 c] w fun e w' => e = .returned (.bool (digB c)) ∧ w' = w := by
  by_cases h1 : 48 ≤ c
  · by_cases h2 : c ≤ 57
    · have e : digB c = true := by unfold digB; simp [h1, h2]
      rw [e]
      have q1 : decide (48 ≤ c) = true := by simpa using h1
      have q2 : decide (c ≤ 57) = true := by simpa using h2
      go_enter Tryd.func45, Tryd.ntmps45
      go_wp2
      go_ret
      exact ⟨rfl, rfl⟩
    · have e : digB c = false := by unfold digB; simp [h2]
      rw [e]
      have q1 : decide (48 ≤ c) = true := by simpa using h1
      have q2 : decide (c ≤ 57) = false := by simpa using h2
      go_enter Tryd.func45, Tryd.ntmps45
      go_wp2
      go_ret
      exact ⟨rfl, rfl⟩
  · have e : digB c = false := by unfold digB; simp [h1]
    rw [e]
    have q1 : decide (48 ≤ c) = false := by simpa using h1
    go_enter Tryd.func45, Tryd.ntmps45
    go_wp2
    go_ret
    exact ⟨rfl, rfl⟩

/-- What is told of a sign, whole pixels and parts: the number, or ErrDigits where it is too great. -/
def checkV (sg wh pt : Int) : Value := if wh * 256 + pt > 1099511627776 then .tuple #[.int .i64 0, .int .i64 30] else .tuple #[.int .i64 (sg * (wh * 256 + pt)), .int .i64 0]
theorem checkV_parts (sg wh pt : Int) : ∃ n e, checkV sg wh pt = .tuple #[.int .i64 n, .int .i64 e] := by
  unfold checkV; split
  · exact ⟨_, _, rfl⟩
  · exact ⟨_, _, rfl⟩
theorem rchecked_any (sg wh pt : Int) (w : World) (hs : sg = 1 ∨ sg = -1) (hw : 0 ≤ wh ∧ wh ≤ 1099511627776) (hp : 0 ≤ pt ∧ pt ≤ 256) :
    Calls Tryd.prog 46 #[.int .i64 sg, .int .i64 wh, .int .i64 pt] w fun e w' => e = .returned (checkV sg wh pt) ∧ w' = w := by
  have e1 : IntKind.i64.wrap (wh * 256) = wh * 256 := IntWalk.i64_in _ (by omega)
  have e2 : IntKind.i64.wrap (wh * 256 + pt) = wh * 256 + pt := IntWalk.i64_in _ (by omega)
  by_cases h : wh * 256 + pt > 1099511627776
  · have e : checkV sg wh pt = .tuple #[.int .i64 0, .int .i64 30] := by unfold checkV; rw [if_pos h]
    rw [e]
    clear e
    go_enter Tryd.func46, Tryd.ntmps46
    go_wp2
    refine bodyPost_ret (by simp [results, Tryd.results46, go_sem] <;> rfl) rfl ⟨rfl, rfl⟩
  · have e : checkV sg wh pt = .tuple #[.int .i64 (sg * (wh * 256 + pt)), .int .i64 0] := by unfold checkV; rw [if_neg h]
    have e3 : IntKind.i64.wrap (sg * (wh * 256 + pt)) = sg * (wh * 256 + pt) := IntWalk.i64_in _ (by rcases hs with rfl | rfl <;> omega)
    rw [e]
    clear e
    go_enter Tryd.func46, Tryd.ntmps46
    go_wp2
    refine bodyPost_ret (by simp [results, Tryd.results46, go_sem] <;> rfl) rfl ⟨?_, rfl⟩
    simp [e3]
end Go.Proofs.YtjjklchfcklahaaDoor
