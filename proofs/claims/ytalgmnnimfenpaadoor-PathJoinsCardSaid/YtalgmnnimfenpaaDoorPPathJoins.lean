/- 'PathJoins': for every input the call answers true, and what came in reads as it did. Condition: the listed tables of Go's library hold at the call what the program's own text lays in them; the card ties this to that text. -/
import Derived.Test.YtalgmnnimfenpaaDoorRows
import Derived.Test.YtalgmnnimfenpaaDoorCard7
import Derived.WalkKit
import Derived.LaidMore
import Derived.SevenTiedAt
import Derived.Stop.Joined
import Derived.ProofKit
import Derived.OpenShut
import Derived.ShutString
import Derived.ChangeOld
import Derived.Below
import Derived.Lib.SmallJoins
import GoSem.Claim
import Derived.Test.YtalgmnnimfenpaaDoorArgs7
import Derived.Test.YtalgmnnimfenpaaDoorLaw7J
namespace Go.Proofs.YtalgmnnimfenpaaDoor.pathJoins
open Go.ChangeShapes Go.WideShapes Go.ChangeAt Go.RowKit Go.Joins
set_option linter.unusedVariables false

theorem own : ownKnob Tryd.prog.godebug = none := by kernel_rfl
theorem cells44 : Tryd.prog.cellsOf 44 = 2 := by kernel_rfl
theorem cells51 : Tryd.prog.cellsOf 51 = 9 := by kernel_rfl
theorem cells48 : Tryd.prog.cellsOf 48 = 4 := by kernel_rfl
theorem cells25 : Tryd.prog.cellsOf 25 = 2 := by kernel_rfl

set_option maxRecDepth 100000 in
theorem lifted (os : Os) (started : os.Started) (H : Type) (enc : TypeId × Value → H) :
    ReturnsInHanded {} Tryd.checked os 4 .any (fun w args => (Rows.pathJoinsSpec.pre enc Tryd.prog Tryd.f4 Rows.pathJoinsRow.domain false w args ∧ laidMetH Tryd.prog laidL w) ∧ sizedMet enc Tryd.prog Tryd.f4 (OpenSpec.ofChange Rows.pathJoinsSpec) false w args) (Rows.pathJoinsSpec.post enc Tryd.prog Tryd.f4 false true false false) := by
  refine returnsInHanded_of_change_and (C := Tryd.checked) (X := fun w _ => laidMetH Tryd.prog laidL w) (fun _ _ _ hh h => h.of_heap hh) own started (by kernel_rfl) Tryd.func4
    (ChangeSpec.witness_shaped (enc := enc) (C := Tryd.checked) (os := os) (X := fun w _ => laidMetH Tryd.prog laidL w) false (World.laidAll Tryd.prog os laidL) #[.slice none 0 0, .agg #[.slice none 0 0, .slice none 0 0], .agg #[.int .i64 0, .int .i64 0]] 8 (World.laidAll_os _ _ _)
      (laid_shaped os) (by kernel_rfl) (by kernel_rfl) (by kernel_rfl) (laid_met os _)) ?_
  intro W base args ds gs before hval0 hW hcnd _ hL _
  have hTb := tab7_of_laid hL
  have hval : ∀ (j : Nat) t v, Tryd.f4.params[j]? = some t → args[j]? = some v → Value.okWide Tryd.prog W .any base t v := hval0
  have hW' := hW
  obtain ⟨p, q, hA0, hV, rfl, hfz, hnd⟩ := hW
  have hA : DataW.TrodAll enc Tryd.prog W 0 (fun _ => true) true Tryd.f4.params.toList args.toList ds p := hA0
  rw [Tryd.params4] at hA hval
  obtain ⟨v0, vs0, d0, ds0, p0, q0, hargs, rfl, rfl, h0, r0⟩ := trodAll_cons hA
  obtain ⟨v1, vs1, d1, ds1, p1, q1, rfl, rfl, rfl, h1, r1⟩ := trodAll_cons r0
  obtain ⟨v2, vs2, d2, ds2, p2, q2, rfl, rfl, rfl, h2, r2⟩ := trodAll_cons r1
  obtain ⟨rfl, rfl, rfl⟩ := trodAll_nil r2
  obtain rfl : args = #[v0, v1, v2] := by cases args; simp_all
  obtain ⟨rfl, rfl⟩ := trodVars_none hV
  obtain ⟨A0, k0, l0, rfl, hl0, hr0, hx0⟩ := open_subs Tryd.underlying28 Tryd.underlying48 rfl Tryd.underlying46 Tryd.underlying4 rfl rfl rfl (by kernel_rfl) (by kernel_rfl) cells48 Tryd.underlying51 Tryd.underlying49 Tryd.underlying44 Tryd.underlying3 rfl rfl rfl cells51 (by kernel_rfl) rfl rfl cells44 rfl rfl (by kernel_rfl) (hval 0 28 v0 rfl rfl) h0
  obtain ⟨A1, B1, cv1, cp1, vs1x, ps1x, rfl, ⟨lv1, mv1, nv1, rv1⟩, ⟨lp1, mp1, np1, rp1⟩⟩ := open_path Tryd.underlying25 (by kernel_rfl) cells25 Tryd.underlying22 Tryd.underlying23 Tryd.underlying44 Tryd.underlying3 rfl rfl cells44 rfl rfl (by kernel_rfl) (hval 1 25 v1 rfl rfl) h1
  obtain ⟨c2_0, c2_1, y2_0, y2_1, m2, rfl, rfl, rfl, hy2_0, hy2_1⟩ := open_agg2 Tryd.underlying44 (by kernel_rfl) cells44 (hval 2 44 v2 rfl rfl) h2
  obtain ⟨a2_0, e2_0, rfl, w2_0⟩ := DataW.trod_int Tryd.underlying3 hy2_0
  obtain ⟨a2_1, e2_1, rfl, w2_1⟩ := DataW.trod_int Tryd.underlying3 hy2_1
  simp at e2_0 e2_1
  subst e2_0 e2_1
  have s2 : ∀ (W' : World) (sp : Nat → Bool), DataW.Trod enc Tryd.prog W' 0 sp true 44 (.agg #[.int .i64 a2_0, .int .i64 a2_1]) (.agg [.lit (.int .i64 a2_0), .lit (.int .i64 a2_1)]) [] := fun W' sp =>
    shut_agg2 (y0 := (.lit (.int .i64 a2_0), [])) (y1 := (.lit (.int .i64 a2_1), [])) Tryd.underlying44 (by kernel_rfl) cells44 ⟨1, by simp [DataW.trod, Tryd.underlying3, w2_0]⟩ ⟨1, by simp [DataW.trod, Tryd.underlying3, w2_1]⟩
  have hT : ∀ t ∈ Tryd.f4.params.toList, t < Tryd.prog.types.size := fun t ht => of_decide_eq_true ((List.all_eq_true.1 (by kernel_rfl : (Tryd.f4.params.toList.all fun t => decide (t < Tryd.prog.types.size)) = true)) t ht)
  have hAG := fun W' (hb : Below W.heap.size W W') => args_again (by kernel_rfl) (by kernel_rfl) (by kernel_rfl) hT hA0 hb
  clear hA0 hval0
  refine (walk_PathJoins A0 k0 l0 A1 B1 cv1 cp1 vs1x ps1x a2_0 a2_1 W hl0 hr0 hx0 ⟨lv1, mv1, nv1, rv1, lp1, mp1, np1, rp1, hTb⟩).mono fun e W' ⟨he, bel⟩ => ?_
  subst he
  exact ⟨_, rfl, _, _, _, [], _, [], hW', trodAll_mk1 (shut_bool Tryd.underlying4 _), (hAG _ bel), rfl, bel.frame _, fun h => by cases h⟩

theorem over : Rows.pathJoinsRow.holds Tryd.pinned (OpenSpec.ofChange Rows.pathJoinsSpec) :=
  OpenClaim.holds_of_wide 4 Tryd.f4 rfl rfl rfl rfl rfl rfl rfl ⟨rfl, rfl, rfl, rfl, rfl⟩ rfl rfl rfl rfl rfl (by kernel_rfl) Tryd.func4 (by kernel_rfl)
    (of_decide_eq_true (by kernel_rfl)) (by unfold Func.isWrapper; first | (rw [if_pos (by decide +kernel)]; kernel_rfl) | (rw [if_neg (by decide +kernel)]; exact ⟨rfl, rfl⟩))
    (fun os started H enc _ => lifted os started H enc)

theorem card : Rows.PathJoinsCardSaid :=
  Claim7.holds_tied_plain_at .later [] [.data] true Rows.pathJoinsCard.stood.harness Rows.pathJoinsCard.stood.looks over (fun _ h => by cases h) (by kernel_rfl) (fun _ h => by cases h) pathJoins_row_tie rfl ⟨rfl, rfl⟩ (by kernel_rfl) rfl
    (fun f fn hf hfn => by
      obtain rfl : f = 4 := Option.some.inj ((show Tryd.prog.funcNamed "ductus/ductuslaw07.PathJoins" = some 4 by kernel_rfl).symm.trans hf) |>.symm
      obtain rfl : fn = Tryd.f4 := (Option.some.inj (Tryd.func4.symm.trans hfn)).symm
      exact ⟨by kernel_rfl, fun j t ht => by
        have hm : t ∈ Tryd.f4.params.toList := by simpa using Array.mem_of_getElem? ht
        have hall : (Tryd.f4.params.toList.all fun u => !Tryd.prog.wantsStandIn u) = true := by kernel_rfl
        exact (show Tryd.prog.wantsStandIn t = false by simpa using List.all_eq_true.1 hall t hm)⟩)
    (by kernel_rfl)
end Go.Proofs.YtalgmnnimfenpaaDoor.pathJoins
