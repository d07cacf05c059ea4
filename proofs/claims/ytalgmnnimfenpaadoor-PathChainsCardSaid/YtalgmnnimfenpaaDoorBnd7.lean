/- The bound of layer 7's laws. -/
import Derived.Test.YtalgmnnimfenpaaDoorRef7D
namespace Go.Proofs.YtalgmnnimfenpaaDoor
open Go.RowKit
set_option linter.unusedVariables false
set_option linter.unusedSimpArgs false
set_option maxHeartbeats 2000000

def bnd7 (n m : Nat) : Bool := decide (n ≤ 520) && decide (m ≤ 1600)
theorem bounded7_any (A B : Option Addr) (n c m d : Nat) (w : World) :
    Calls Tryd.prog 9 #[PathA A n c B m d] w fun e w' => e = .returned (.bool (bnd7 n m)) ∧ Below w.heap.size w w' := by
  by_cases h1 : n ≤ 520
  · by_cases h2 : m ≤ 1600
    · have F := Lib.hid (show bnd7 n m = true by unfold bnd7; simp [h1, h2])
      have q1 : decide ((n : Int) ≤ 520) = true := by simp; omega
      have q2 : decide ((m : Int) ≤ 1600) = true := by simp; omega
      go_enter Tryd.func9, Tryd.ntmps9
      go_wp2
      go_ret
      exact ⟨by rw [F.out]; rfl, (Below.refl _ _).alloc (Nat.le_refl _) _⟩
    · have F := Lib.hid (show bnd7 n m = false by unfold bnd7; simp [h1, h2])
      have q1 : decide ((n : Int) ≤ 520) = true := by simp; omega
      have q2 : decide ((m : Int) ≤ 1600) = false := by simp; omega
      go_enter Tryd.func9, Tryd.ntmps9
      go_wp2
      go_ret
      exact ⟨by rw [F.out]; rfl, (Below.refl _ _).alloc (Nat.le_refl _) _⟩
  · have F := Lib.hid (show bnd7 n m = false by unfold bnd7; simp [h1])
    have q1 : decide ((n : Int) ≤ 520) = false := by simp; omega
    go_enter Tryd.func9, Tryd.ntmps9
    go_wp2
    go_ret
    exact ⟨by rw [F.out]; rfl, (Below.refl _ _).alloc (Nat.le_refl _) _⟩
end Go.Proofs.YtalgmnnimfenpaaDoor
