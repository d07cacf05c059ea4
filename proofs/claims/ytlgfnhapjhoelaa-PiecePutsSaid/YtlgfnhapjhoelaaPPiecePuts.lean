/- 'PiecePuts': for every input the call answers true, and what came in reads as it did. No condition. -/
import Derived.Test.YtlgfnhapjhoelaaRows
import Derived.WalkKit
import Derived.ProofKit
import Derived.OpenShut
import Derived.ShutString
import Derived.ChangeOld
import Derived.Below
import Derived.Lib.SmallJoins
import Derived.Test.YtlgfnhapjhoelaaLawLib
import Derived.Test.YtlgfnhapjhoelaaArgs
import Derived.Test.YtlgfnhapjhoelaaLaw6U
namespace Go.Proofs.Ytlgfnhapjhoelaa.piecePuts
open Go.ChangeShapes Go.WideShapes Go.ChangeAt Go.RowKit Go.Joins
set_option linter.unusedVariables false

theorem own : ownKnob Try.prog.godebug = none := by kernel_rfl
theorem cells24 : Try.prog.cellsOf 24 = 2 := by kernel_rfl

set_option maxRecDepth 100000 in
theorem lifted (os : Os) (started : os.Started) (H : Type) (enc : TypeId × Value → H) :
    ReturnsInHanded {} Try.checked os 4 .any (Rows.piecePutsSpec.pre6 enc Try.prog Try.f4 Rows.piecePutsRow.domain false) (Rows.piecePutsSpec.post enc Try.prog Try.f4 false true false false) := by
  refine returnsInHanded_of_change (C := Try.checked) own started (by kernel_rfl) Try.func4
    (ChangeSpec.witness6 (enc := enc) (C := Try.checked) false ⟨#[], #[.slice none 0 0], []⟩ 8 (by kernel_rfl) (by kernel_rfl) (by kernel_rfl) (by kernel_rfl)) ?_
  intro W base args ds gs before hval0 hW hcnd _
  have hval : ∀ (j : Nat) t v, Try.f4.params[j]? = some t → args[j]? = some v → Value.okWide Try.prog W .any base t v := hval0
  have hW' := hW
  obtain ⟨p, q, hA0, hV, rfl, hfz, hnd⟩ := hW
  have hA : DataW.TrodAll enc Try.prog W 0 (fun _ => true) true Try.f4.params.toList args.toList ds p := hA0
  rw [Try.params4] at hA hval
  obtain ⟨v0, vs0, d0, ds0, p0, q0, hargs, rfl, rfl, h0, r0⟩ := trodAll_cons hA
  obtain ⟨rfl, rfl, rfl⟩ := trodAll_nil r0
  obtain rfl : args = #[v0] := by cases args; simp_all
  obtain ⟨rfl, rfl⟩ := trodVars_none hV
  obtain ⟨A0, k0, l0, rfl, hc0, hl0, hr0⟩ := open_pts Try.underlying22 Try.underlying24 Try.underlying3 rfl rfl cells24 rfl rfl (by kernel_rfl) (hval 0 22 v0 rfl rfl) h0
  have hT : ∀ t ∈ Try.f4.params.toList, t < Try.prog.types.size := fun t ht => of_decide_eq_true ((List.all_eq_true.1 (by kernel_rfl : (Try.f4.params.toList.all fun t => decide (t < Try.prog.types.size)) = true)) t ht)
  have hAG := fun W' (hb : Below W.heap.size W W') => args_again (by kernel_rfl) (by kernel_rfl) (by kernel_rfl) hT hA0 hb
  clear hA0 hval0
  refine (walk_PiecePuts A0 k0 l0 W hr0 hl0).mono fun e W' ⟨he, bel⟩ => ?_
  subst he
  exact ⟨_, rfl, _, _, _, [], _, [], hW', trodAll_mk1 (shut_bool Try.underlying4 _), (hAG _ bel), rfl, bel.frame _, fun h => by cases h⟩

theorem over : Rows.piecePutsRow.holds Try.pinned (OpenSpec.ofChange Rows.piecePutsSpec) :=
  OpenClaim.holds_of_wide 4 Try.f4 rfl rfl rfl rfl rfl rfl rfl ⟨rfl, rfl, rfl, rfl, rfl⟩ rfl rfl rfl rfl rfl (by kernel_rfl) Try.func4 (by kernel_rfl)
    (of_decide_eq_true (by kernel_rfl)) (by unfold Func.isWrapper; first | (rw [if_pos (by decide +kernel)]; kernel_rfl) | (rw [if_neg (by decide +kernel)]; exact ⟨rfl, rfl⟩))
    (fun os started H enc _ => lifted os started H enc)

theorem proved : Rows.PiecePutsSaid := over
end Go.Proofs.Ytlgfnhapjhoelaa.piecePuts
