/- What the program's own vectors answer. -/
import Derived.Test.YtlgfnhapjhoelaaRef4
import Derived.Test.YtlgfnhapjhoelaaRef3
import Derived.Test.YtlgfnhapjhoelaaWideB
import Derived.Test.YtlgfnhapjhoelaaDivTwo
import Derived.RangeFuncNested
import Derived.RangeFuncBound
import Derived.RangeFuncCalls
import Derived.RangeFuncLeaves
import Derived.RangeFuncFrom
import Derived.Shelf.Abstract
import Derived.Shelf.RegionOpen
import Derived.WalkKit
import Derived.OwnWalkIn
import Derived.TacticsInMore
import Derived.LoopNIn
import Derived.LoopIn
import Derived.Test.YtlgfnhapjhoelaaRootNum
import Derived.Lib.ItoaNum
import Derived.Test.YtlgfnhapjhoelaaMore
namespace Go.Proofs.Ytlgfnhapjhoelaa
open Go.RowKit
set_option linter.unusedVariables false
set_option linter.unusedSimpArgs false
set_option maxHeartbeats 2000000

/-- A vector of the program's own, and two of them. -/
abbrev V1 (x y : Int) : Value := P2 x y
abbrev V2 (x y u v : Int) : Value := .agg #[.int .i64 x, .int .i64 y, .int .i64 u, .int .i64 v]
theorem psum_any (x y u v : Int) (w : World) (hx : -2147483648 ≤ x ∧ x ≤ 2147483648) (hy : -2147483648 ≤ y ∧ y ≤ 2147483648) (hu : -2147483648 ≤ u ∧ u ≤ 2147483648) (hv : -2147483648 ≤ v ∧ v ≤ 2147483648) :
    Calls Try.prog 45 #[V2 x y u v] w fun e w' => e = .returned (P2 (x + u) (y + v)) ∧ Below w.heap.size w w' := by
  go_enter Try.func45, Try.ntmps45
  go_wp2
  refine bodyPost_ret (by simp [results, Try.results45, go_sem] <;> rfl) rfl ⟨?_, ?_⟩
  · rfl
  · exact (by repeat (first | exact Below.refl _ _ | refine below_dN ?_ _ | refine Below.setCell ?_ (by first | (simp; done) | (simp; omega)) _ | refine Below.alloc ?_ (by first | (simp; done) | (simp; omega)) _))

theorem pneg_any (x y : Int) (w : World) (hx : -2147483648 ≤ x ∧ x ≤ 2147483648) (hy : -2147483648 ≤ y ∧ y ≤ 2147483648) :
    Calls Try.prog 59 #[V1 x y] w fun e w' => e = .returned (P2 (-x) (-y)) ∧ Below w.heap.size w w' := by
  go_enter Try.func59, Try.ntmps59
  go_wp2
  refine bodyPost_ret (by simp [results, Try.results59, go_sem] <;> rfl) rfl ⟨?_, ?_⟩
  · rfl
  · exact (by repeat (first | exact Below.refl _ _ | refine below_dN ?_ _ | refine Below.setCell ?_ (by first | (simp; done) | (simp; omega)) _ | refine Below.alloc ?_ (by first | (simp; done) | (simp; omega)) _))

theorem pleft_any (x y : Int) (w : World) (hx : -2147483648 ≤ x ∧ x ≤ 2147483648) (hy : -2147483648 ≤ y ∧ y ≤ 2147483648) :
    Calls Try.prog 51 #[V1 x y] w fun e w' => e = .returned (P2 (-y) x) ∧ Below w.heap.size w w' := by
  go_enter Try.func51, Try.ntmps51
  go_wp2
  refine bodyPost_ret (by simp [results, Try.results51, go_sem] <;> rfl) rfl ⟨?_, ?_⟩
  · rfl
  · exact (by repeat (first | exact Below.refl _ _ | refine below_dN ?_ _ | refine Below.setCell ?_ (by first | (simp; done) | (simp; omega)) _ | refine Below.alloc ?_ (by first | (simp; done) | (simp; omega)) _))

theorem pdot_any (x y u v : Int) (w : World) (hx : -1073741824 ≤ x ∧ x ≤ 1073741824) (hy : -1073741824 ≤ y ∧ y ≤ 1073741824) (hu : -1073741824 ≤ u ∧ u ≤ 1073741824) (hv : -1073741824 ≤ v ∧ v ≤ 1073741824) :
    Calls Try.prog 56 #[V2 x y u v] w fun e w' => e = .returned (.int .i64 (x * u + y * v)) ∧ Below w.heap.size w w' := by
  have p1 := prod_30 x u hx hu
  have p2 := prod_30 y v hy hv
  obtain ⟨p, hp⟩ : ∃ p, x * u = p := ⟨_, rfl⟩
  obtain ⟨q, hq⟩ : ∃ q, y * v = q := ⟨_, rfl⟩
  rw [hp, hq]
  rw [hp] at p1
  rw [hq] at p2
  have e1 : IntKind.i64.wrap p = p := IntWalk.i64_in _ (by omega)
  have e2 : IntKind.i64.wrap q = q := IntWalk.i64_in _ (by omega)
  have e3 : IntKind.i64.wrap (p + q) = p + q := IntWalk.i64_in _ (by omega)
  go_enter Try.func56, Try.ntmps56
  go_wp2
  go_ret
  exact ⟨rfl, (by repeat (first | exact Below.refl _ _ | refine below_dN ?_ _ | refine Below.setCell ?_ (by first | (simp; done) | (simp; omega)) _ | refine Below.alloc ?_ (by first | (simp; done) | (simp; omega)) _))⟩

theorem vadd_any (x y u v : Int) (w : World) (hx : -2147483648 ≤ x ∧ x ≤ 2147483648) (hy : -2147483648 ≤ y ∧ y ≤ 2147483648) (hu : -2147483648 ≤ u ∧ u ≤ 2147483648) (hv : -2147483648 ≤ v ∧ v ≤ 2147483648) :
    Calls Try.prog 33 #[P2 x y, P2 u v] w fun e w' => e = .returned (P2 (x + u) (y + v)) ∧ Below w.heap.size w w' := by
  have C := Lib.hid (fun w => psum_any x y u v w hx hy hu hv)
  go_enter Try.func33, Try.ntmps33
  go_wp2_with fail
  refine (C.out _).mono ?_
  rintro e w1 ⟨rfl, h1⟩
  have z1 := h1.size
  simp at z1
  obtain ⟨hc, hf⟩ := bcell h1
  have hB := Below.trans (show Below w.heap.size w _ from (by repeat (first | exact Below.refl _ _ | refine below_dN ?_ _ | refine Below.setCell ?_ (by first | (simp; done) | (simp; omega)) _ | refine Below.alloc ?_ (by first | (simp; done) | (simp; omega)) _))) (h1.mono (by first | (simp; done) | (simp; omega)))
  clear h1
  go_wp2
  refine bodyPost_ret (by simp [results, Try.results33, go_sem, hc, hf] <;> rfl) rfl ⟨?_, ?_⟩
  · rfl
  · exact Below.setCell (Below.setCell hB (by first | (simp; done) | (simp; omega)) _) (by first | (simp; done) | (simp; omega)) _

theorem vneg_any (x y : Int) (w : World) (hx : -2147483648 ≤ x ∧ x ≤ 2147483648) (hy : -2147483648 ≤ y ∧ y ≤ 2147483648) :
    Calls Try.prog 57 #[P2 x y] w fun e w' => e = .returned (P2 (-x) (-y)) ∧ Below w.heap.size w w' := by
  have C := Lib.hid (fun w => pneg_any x y w hx hy)
  go_enter Try.func57, Try.ntmps57
  go_wp2_with fail
  refine (C.out _).mono ?_
  rintro e w1 ⟨rfl, h1⟩
  have z1 := h1.size
  simp at z1
  obtain ⟨hc, hf⟩ := bcell h1
  have hB := Below.trans (show Below w.heap.size w _ from (by repeat (first | exact Below.refl _ _ | refine below_dN ?_ _ | refine Below.setCell ?_ (by first | (simp; done) | (simp; omega)) _ | refine Below.alloc ?_ (by first | (simp; done) | (simp; omega)) _))) (h1.mono (by first | (simp; done) | (simp; omega)))
  clear h1
  go_wp2
  refine bodyPost_ret (by simp [results, Try.results57, go_sem, hc, hf] <;> rfl) rfl ⟨?_, ?_⟩
  · rfl
  · exact Below.setCell (Below.setCell hB (by first | (simp; done) | (simp; omega)) _) (by first | (simp; done) | (simp; omega)) _

theorem vdot_any (x y u v : Int) (w : World) (hx : -1073741824 ≤ x ∧ x ≤ 1073741824) (hy : -1073741824 ≤ y ∧ y ≤ 1073741824) (hu : -1073741824 ≤ u ∧ u ≤ 1073741824) (hv : -1073741824 ≤ v ∧ v ≤ 1073741824) :
    Calls Try.prog 50 #[P2 x y, P2 u v] w fun e w' => e = .returned (.int .i64 (x * u + y * v)) ∧ Below w.heap.size w w' := by
  have C := Lib.hid (fun w => pdot_any x y u v w hx hy hu hv)
  go_enter Try.func50, Try.ntmps50
  go_wp2_with fail
  refine (C.out _).mono ?_
  rintro e w1 ⟨rfl, h1⟩
  have z1 := h1.size
  simp at z1
  have hB := Below.trans (show Below w.heap.size w _ from (by repeat (first | exact Below.refl _ _ | refine below_dN ?_ _ | refine Below.setCell ?_ (by first | (simp; done) | (simp; omega)) _ | refine Below.alloc ?_ (by first | (simp; done) | (simp; omega)) _))) (h1.mono (by first | (simp; done) | (simp; omega)))
  clear h1
  go_wp2
  go_ret
  exact ⟨rfl, hB⟩

end Go.Proofs.Ytlgfnhapjhoelaa
