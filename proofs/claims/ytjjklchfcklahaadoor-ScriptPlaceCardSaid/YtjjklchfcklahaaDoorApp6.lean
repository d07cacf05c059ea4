/- Appending any many elements (none as well) onto a row of one's own, at a step of a region that draws its order; parts of a slice of corners. -/
import Derived.Test.YtjjklchfcklahaaDoorCorL
import Derived.Deep.Upon
namespace Go.Proofs.YtjjklchfcklahaaDoor
open Go.RowKit
set_option linter.unusedVariables false
set_option linter.unusedSimpArgs false
set_option maxHeartbeats 2000000

/-- What begins at corner k. -/
theorem Cor.drop {w : World} {B : Nat} {ad : Addr} {l : List Pnt} (h : Cor w B (some ad) l) (k : Nat) (hk : k < l.length) : Cor w B (some (ad.add (k * 2))) (l.drop k) := fun _ => by
  obtain ⟨ad', e, hB, hc⟩ := h (by omega)
  obtain rfl := Option.some.inj e
  refine ⟨_, rfl, by rw [block_add]; exact hB, fun i p hp => ?_⟩
  rw [List.getElem?_drop] at hp
  have := hc (k + i) p hp
  rw [add_add, show k * 2 + i * 2 = (k + i) * 2 by omega]
  exact this
theorem Cor.take {w : World} {B : Nat} {A : Option Addr} {l : List Pnt} (h : Cor w B A l) (k : Nat) : Cor w B A (l.take k) := fun hk => by
  rw [List.length_take] at hk
  obtain ⟨ad, e, hB, hc⟩ := h (by omega)
  refine ⟨ad, e, hB, fun i p hp => hc i p ?_⟩
  rw [List.getElem?_take] at hp
  split at hp
  · exact hp
  · cases hp
end Go.Proofs.YtjjklchfcklahaaDoor
