/- The document's Split: of any path. -/
import Derived.Test.YtalgmnnimfenpaaDoorRef7S
namespace Go.Proofs.YtalgmnnimfenpaaDoor
open Go.RowKit
set_option linter.unusedVariables false
set_option linter.unusedSimpArgs false
theorem r7split_any (A B : Option Addr) (cv cp : Nat) (vs : List Int) (ps : List Pnt) (w : World) (hr : Vals w w.heap.size A (vs.map iV)) (hq : Cor w w.heap.size B ps) (hl : vs.length ≤ 2000) (hp : ps.length ≤ 2000) (hcp : ps.length ≤ cp) (hcp2 : cp ≤ 9223372036854775807) :
    Calls Tryd.prog 12 #[PathA A vs.length cv B ps.length cp] w fun e w' => ∃ A' c', e = .returned (.tuple #[.slice A' (splitE vs ps).length c', .int .i64 (pathE vs ps)]) ∧ Subs w' w'.heap.size A' (splitE vs ps) ∧ Below w.heap.size w w' := by
  by_cases hc : pathE vs ps = 0
  · rw [splitE_ok hc, hc]
    exact r7split_good A B cv cp vs ps w hr hq hp hcp hcp2 hc
  · rw [splitE_bad hc]
    refine (r7split_bad A B cv cp vs ps w hr hq (by omega) (by omega) hc).mono ?_
    rintro e w' ⟨rfl, hb⟩
    exact ⟨none, 0, rfl, fun h => absurd h (Nat.lt_irrefl 0), hb⟩
end Go.Proofs.YtalgmnnimfenpaaDoor
