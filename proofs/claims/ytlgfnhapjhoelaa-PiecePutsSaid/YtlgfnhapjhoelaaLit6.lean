/- Slices of corners that a program's text lists, and what is put behind a list. -/
import Derived.Test.YtlgfnhapjhoelaaRef6H
import Derived.Test.YtlgfnhapjhoelaaRef6C
import Derived.Test.YtlgfnhapjhoelaaRef6B
import Derived.Test.YtlgfnhapjhoelaaCorL
namespace Go.Proofs.Ytlgfnhapjhoelaa
open Go.RowKit
set_option linter.unusedVariables false
set_option linter.unusedSimpArgs false
set_option maxHeartbeats 2000000

/-- What is put behind a list: nothing, or one piece. -/
def putL (l : List Pnt) : List (List Pnt) := if convexV l then [l] else if convexV l.reverse then [l.reverse] else []
theorem putL_V (l : List Pnt) : putL l = (putV l).toList := by
  unfold putL putV; split
  · rfl
  · split <;> rfl
theorem pcs_nil (w : World) (B : Nat) (A : Option Addr) : Pcs w B A [] := ⟨[], rfl, fun h => absurd h (Nat.lt_irrefl 0), fun i p h => by simp at h⟩
theorem Pcs.more {w : World} {B B' : Nat} {A : Option Addr} {ps : List (List Pnt)} (h : Pcs w B A ps) (hB : B ≤ B') : Pcs w B' A ps := by
  obtain ⟨vs, hl, hv, hc⟩ := h
  refine ⟨vs, hl, hv.more hB, fun i p hp => ?_⟩
  obtain ⟨h16, a, c, h1, h2⟩ := hc i p hp
  exact ⟨h16, a, c, h1, h2.more hB⟩
theorem Pcs.calls {w w' : World} {A : Option Addr} {ps : List (List Pnt)} (h : Pcs w w.heap.size A ps) (hb : Below w.heap.size w w') : Pcs w' w'.heap.size A ps := (h.step hb).more hb.size
end Go.Proofs.Ytlgfnhapjhoelaa
