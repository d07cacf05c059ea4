/- What the program's own vectors answer. -/
import Derived.Test.YtalgmnnimfenpaaDoorCorn
import Derived.Test.YtalgmnnimfenpaaDoorDivNum
import Derived.Test.YtalgmnnimfenpaaDoorShelf
import Derived.Test.YtalgmnnimfenpaaDoorDivTwo
import Derived.RangeFuncNested
import Derived.RangeFuncBound
import Derived.RangeFuncCalls
import Derived.RangeFuncLeaves
import Derived.RangeFuncFrom
import Derived.Shelf.Abstract
import Derived.Shelf.RegionOpen
import Derived.WalkKit
import Derived.OwnWalkIn
import Derived.TacticsInMore
import Derived.LoopNIn
import Derived.LoopIn
import Derived.Lib.ItoaNum
namespace Go.Proofs.YtalgmnnimfenpaaDoor
open Go.RowKit
set_option linter.unusedVariables false
set_option linter.unusedSimpArgs false
set_option maxHeartbeats 2000000

abbrev V2 (x y u v : Int) : Value := .agg #[.int .i64 x, .int .i64 y, .int .i64 u, .int .i64 v]
theorem psum_any (x y u v : Int) (w : World) (hx : -2147483648 ≤ x ∧ x ≤ 2147483648) (hy : -2147483648 ≤ y ∧ y ≤ 2147483648) (hu : -2147483648 ≤ u ∧ u ≤ 2147483648) (hv : -2147483648 ≤ v ∧ v ≤ 2147483648) :
    Calls Tryd.prog 46 #[V2 x y u v] w fun e w' => e = .returned (P2 (x + u) (y + v)) ∧ Below w.heap.size w w' := by
  go_enter Tryd.func46, Tryd.ntmps46
  go_wp2
  refine bodyPost_ret (by simp [results, Tryd.results46, go_sem] <;> rfl) rfl ⟨?_, ?_⟩
  · rfl
  · exact (by repeat (first | exact Below.refl _ _ | refine below_dN ?_ _ | refine Below.setCell ?_ (by first | (simp; done) | (simp; omega)) _ | refine Below.alloc ?_ (by first | (simp; done) | (simp; omega)) _))

theorem vadd_any (x y u v : Int) (w : World) (hx : -2147483648 ≤ x ∧ x ≤ 2147483648) (hy : -2147483648 ≤ y ∧ y ≤ 2147483648) (hu : -2147483648 ≤ u ∧ u ≤ 2147483648) (hv : -2147483648 ≤ v ∧ v ≤ 2147483648) :
    Calls Tryd.prog 40 #[P2 x y, P2 u v] w fun e w' => e = .returned (P2 (x + u) (y + v)) ∧ Below w.heap.size w w' := by
  have C := Lib.hid (fun w => psum_any x y u v w hx hy hu hv)
  go_enter Tryd.func40, Tryd.ntmps40
  go_wp2_with fail
  refine (C.out _).mono ?_
  rintro e w1 ⟨rfl, h1⟩
  have z1 := h1.size
  simp at z1
  obtain ⟨hc, hf⟩ := bcell h1
  have hB := Below.trans (show Below w.heap.size w _ from (by repeat (first | exact Below.refl _ _ | refine below_dN ?_ _ | refine Below.setCell ?_ (by first | (simp; done) | (simp; omega)) _ | refine Below.alloc ?_ (by first | (simp; done) | (simp; omega)) _))) (h1.mono (by first | (simp; done) | (simp; omega)))
  clear h1
  go_wp2
  refine bodyPost_ret (by simp [results, Tryd.results40, go_sem, hc, hf] <;> rfl) rfl ⟨?_, ?_⟩
  · rfl
  · exact Below.setCell (Below.setCell hB (by first | (simp; done) | (simp; omega)) _) (by first | (simp; done) | (simp; omega)) _

end Go.Proofs.YtalgmnnimfenpaaDoor
