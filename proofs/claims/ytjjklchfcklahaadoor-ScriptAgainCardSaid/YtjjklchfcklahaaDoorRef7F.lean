/- A path that is shifted: the document's own answer. -/
import Derived.Test.YtjjklchfcklahaaDoorApp7
import Derived.Test.YtjjklchfcklahaaDoorRef7D
import Derived.Deep.RegionLaw
namespace Go.Proofs.YtjjklchfcklahaaDoor
open Go.RowKit
set_option linter.unusedVariables false
set_option linter.unusedSimpArgs false
set_option maxHeartbeats 4000000
set_option maxRecDepth 100000

theorem info_i : (Tryd.prog.info? 3).map (fun i => (i.zero, i.size, i.bytes)) = some (some (.int .i64 0), 1, 8) := by kernel_rfl
theorem und_is : Tryd.prog.underlying 22 = some (.slice 3) := by kernel_rfl
/-- A struct of two slices at block G: its first cell, its second one; what is older is as it was. -/
structure TwoB (G : Nat) (va v : Value) (w x : World) : Prop where
  c0 : x.cell? ⟨G, 0, none⟩ = some va
  c1 : x.cell? ⟨G, 1, none⟩ = some v
  f0 : x.frozen? ⟨G, 0, none⟩ = false
  f1 : x.frozen? ⟨G, 1, none⟩ = false
  bel : Below G w x
  sz : G + 1 ≤ x.heap.size
theorem TwoB.step {G : Nat} {va v : Value} {w x x' : World} (h : TwoB G va v w x) (hb : Below (G + 1) x x') : TwoB G va v w x' :=
  ⟨(hb.cell (Nat.lt_succ_self _)).trans h.c0, (hb.cell (Nat.lt_succ_self _)).trans h.c1, (hb.frozen (Nat.lt_succ_self _)).trans h.f0, (hb.frozen (Nat.lt_succ_self _)).trans h.f1, h.bel.trans (hb.mono (Nat.le_succ _)), Nat.le_trans h.sz hb.size⟩
theorem TwoB.drew {G : Nat} {va v : Value} {w x : World} (h : TwoB G va v w x) : TwoB G va v w x.drew := ⟨h.c0, h.c1, h.f0, h.f1, h.bel.drew, h.sz⟩
theorem TwoB.put1 {G : Nat} {va v : Value} {w x : World} (h : TwoB G va v w x) (v' : Value) : TwoB G va v' w (x.setCell ⟨G, 1, none⟩ v') :=
  ⟨(World.cell?_setCell_other _ _ _ _ (by simp)).trans h.c0, World.cell?_setCell_same _ _ _ h.c1, by rw [World.frozen?_setCell]; exact h.f0, by rw [World.frozen?_setCell]; exact h.f1, h.bel.setCell (Nat.le_refl _) _, by simpa [World.setCell] using h.sz⟩
theorem TwoB.put0 {G : Nat} {va v : Value} {w x : World} (h : TwoB G va v w x) (v' : Value) : TwoB G v' v w (x.setCell ⟨G, 0, none⟩ v') :=
  ⟨World.cell?_setCell_same _ _ _ h.c0, (World.cell?_setCell_other _ _ _ _ (by simp)).trans h.c1, by rw [World.frozen?_setCell]; exact h.f0, by rw [World.frozen?_setCell]; exact h.f1, h.bel.setCell (Nat.le_refl _) _, by simpa [World.setCell] using h.sz⟩
theorem ownsRow_set {w : World} {B : Nat} {e : TypeId} {k : Nat} {v : Value} {n : Nat} {xs : List Value} (h : w.ownsRow (B + 1) e k v n xs) (j : Nat) (u : Value) : (w.setCell ⟨B, j, none⟩ u).ownsRow (B + 1) e k v n xs :=
  ownsRow_setCell_below h (a := ⟨B, j, none⟩) (Nat.lt_succ_self _) u

end Go.Proofs.YtjjklchfcklahaaDoor
