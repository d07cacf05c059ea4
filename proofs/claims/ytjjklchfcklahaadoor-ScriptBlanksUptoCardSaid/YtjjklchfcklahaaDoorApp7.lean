/- Appending whatever a slice holds, none as well, nil as well, onto a row of one's own. -/
import Derived.Test.YtjjklchfcklahaaDoorApp6
import Derived.Test.YtjjklchfcklahaaDoorCorL
import Derived.Deep.RegionHeld
namespace Go.Proofs.YtjjklchfcklahaaDoor
open Go.RowKit
set_option linter.unusedVariables false
set_option linter.unusedSimpArgs false
set_option maxHeartbeats 2000000

section
variable {P : Program}
end
/-- A store into another block. -/
theorem Vals.set {w : World} {B : Nat} {A : Option Addr} {vs : List Value} (h : Vals w B A vs) (p : Addr) (u : Value) (hne : ∀ ad, A = some ad → ad.block ≠ p.block) : Vals (w.setCell p u) B A vs := fun hn => by
  obtain ⟨ad, e, hB, hc⟩ := h hn
  have hb := hne ad e
  exact ⟨ad, e, hB, fun i q hq => (World.cell?_setCell_far w p _ u (by rw [block_add]; exact fun k => hb k.symm)).trans (hc i q hq)⟩
theorem Cor.set {w : World} {B : Nat} {A : Option Addr} {l : List Pnt} (h : Cor w B A l) (p : Addr) (u : Value) (hne : ∀ ad, A = some ad → ad.block ≠ p.block) : Cor (w.setCell p u) B A l := fun hn => by
  obtain ⟨ad, e, hB, hc⟩ := h hn
  refine ⟨ad, e, hB, fun i q hq => ?_⟩
  obtain ⟨h0, h1⟩ := hc i q hq
  have hb := hne ad e
  exact ⟨(World.cell?_setCell_far w p _ u (by rw [block_add]; exact fun k => hb k.symm)).trans h0, (World.cell?_setCell_far w p ⟨(ad.add (i * 2)).block, (ad.add (i * 2)).off + 1, none⟩ u (show p.block ≠ (ad.add (i * 2)).block by rw [block_add]; exact fun k => hb k.symm)).trans h1⟩
theorem row_far {w : World} {B : Nat} {e : TypeId} {k : Nat} {A : Option Addr} {n c m : Nat} {xs : List Value} (h : w.ownsRow B e k (.slice A n c) m xs) {p : Nat} (hp : p < B) : ∀ ad, A = some ad → ad.block ≠ p := fun ad ha => by
  subst ha
  obtain ⟨_, ⟨hv, _⟩ | ⟨g, cap, cur, hv, hB, _⟩⟩ := h
  · cases hv
  · cases hv; dsimp only; omega
end Go.Proofs.YtjjklchfcklahaaDoor
