/- Slices of corners that a program's text lists; slices of corners behind a call. -/
import Derived.Test.YtlgfnhapjhoelaaRow6
namespace Go.Proofs.Ytlgfnhapjhoelaa
open Go.RowKit
set_option linter.unusedVariables false
set_option linter.unusedSimpArgs false
set_option maxHeartbeats 2000000

/-- A slice that has just been made of these corners. -/
theorem cor_lit (w : World) (cs : Array Value) (e : TypeId) (l : List Pnt) (B : Nat) (h : cs.toList = flatP l) (hB : w.heap.size < B) : Cor (w.alloc (.cells cs e)) B (some ⟨w.heap.size, 0, none⟩) l := fun _ => by
  refine ⟨⟨w.heap.size, 0, none⟩, rfl, hB, fun i p hp => ?_⟩
  have ha : (⟨w.heap.size, 0, none⟩ : Addr).add (i * 2) = ⟨w.heap.size, i * 2, none⟩ := by unfold Addr.add; split <;> simp_all
  rw [ha]
  have hp2 := flatP_get l i p hp
  rw [← h] at hp2
  exact ⟨(World.cell?_alloc_new ..).trans (by simpa using hp2.1), (World.cell?_alloc_new ..).trans (by simpa using hp2.2)⟩
theorem cor_lit' (w : World) (g : Nat) (cs : Array Value) (e : TypeId) (l : List Pnt) (B : Nat) (hg : g = w.heap.size) (h : cs.toList = flatP l) (hB : g < B) : Cor (w.alloc (.cells cs e)) B (some ⟨g, 0, none⟩) l := by
  subst hg; exact cor_lit w cs e l B h hB
theorem add_zero (a : Addr) : a.add 0 = a := by unfold Addr.add; simp
theorem Cor.calls {w w' : World} {A : Option Addr} {l : List Pnt} (h : Cor w w.heap.size A l) (hb : Below w.heap.size w w') : Cor w' w'.heap.size A l := (h.step hb).more hb.size
end Go.Proofs.Ytlgfnhapjhoelaa
