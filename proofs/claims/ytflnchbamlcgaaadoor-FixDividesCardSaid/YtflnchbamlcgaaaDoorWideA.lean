/- What the program's own wide numbers answer: Of, Add, Sub, Cmp, Sign, Narrow. -/
import Derived.Test.YtflnchbamlcgaaaDoorProg
import Derived.Test.YtflnchbamlcgaaaDoorNum
import Derived.WalkKit
import Derived.Deep.QuietTactic
import Derived.BigQuiet
import Derived.Laws.Externs
import Derived.Deep.RegionHeld3
import Derived.Deep.RegionWith
import Derived.Deep.DeepCutAuto
import Derived.Lib.Hide
import Derived.Shelf.Spec.BitsCarry
namespace Go.Proofs.YtflnchbamlcgaaaDoor
open Go.RowKit
set_option linter.unusedVariables false
set_option maxHeartbeats 400000

theorem below_dN {B : Nat} {a w : World} (h : Below B a w) (n : Nat) : Below B a (w.drewN n) := h.trans ⟨rfl, rfl, rfl, Nat.le_refl _, fun _ _ => rfl⟩

theorem add64_run (x y c : Int) (hx : 0 ≤ x) (hy : 0 ≤ y) (hc0 : 0 ≤ c) (hc : c ≤ 1) (w : World) :
    (callFunc 50 #[.int .u64 x, .int .u64 y, .int .u64 c]).run Tryd.prog w =
      .ok (.value (.tuple #[.int .u64 ((x + y + c) % 18446744073709551616), .int .u64 ((x + y + c) / 18446744073709551616)])) w := by
  rw [run_callFunc_extern Tryd.func50 (by kernel_rfl) (by kernel_rfl) (by kernel_rfl) (e := add64Entry) (by kernel_rfl), run_add64 x y c hx hy hc0 hc]
  rfl

theorem signWord_any (n : Int) (w : World) (h : -9223372036854775808 ≤ n ∧ n ≤ 9223372036854775807) :
    Calls Tryd.prog 44 #[.int .i64 n] w fun e w' => e = .returned (.int .i64 (hi n)) ∧ w = w' := by
  have e := hi_div n h
  go_enter Tryd.func44, Tryd.ntmps44
  go_wp2
  go_ret
  exact ⟨rfl, rfl⟩

theorem of_any (n : Int) (w : World) (h : -9223372036854775808 ≤ n ∧ n ≤ 9223372036854775807) :
    Calls Tryd.prog 30 #[.int .i64 n] w fun e w' => e = .returned (W n) ∧ Below w.heap.size w w' := by
  have e2 : IntKind.u64.wrap n = lo n := by rw [IntKind.wrap_u64]; rfl
  go_enter Tryd.func30, Tryd.ntmps30
  go_wp2_with fail
  refine (signWord_any _ _ h).mono ?_
  rintro e w' ⟨rfl, rfl⟩
  go_wp2
  exact bodyPost_ret (v := W n) (by simp [results, Tryd.results30, go_sem]) rfl ⟨rfl, (Below.refl _ _).alloc (Nat.le_refl _) _⟩

theorem add64_run0 (x y : Int) (hx : 0 ≤ x) (hy : 0 ≤ y) (w : World) :
    (callFunc 50 #[.int .u64 x, .int .u64 y, .int .u64 0]).run Tryd.prog w =
      .ok (.value (.tuple #[.int .u64 ((x + y) % 18446744073709551616), .int .u64 ((x + y) / 18446744073709551616)])) w := by
  have h := add64_run x y 0 hx hy (by omega) (by omega) w
  rw [Int.add_zero] at h
  exact h
theorem add_any (a b : Int) (w : World) :
    Calls Tryd.prog 29 #[W a, W b] w fun e w' => e = .returned (W (a + b)) ∧ Below w.heap.size w w' := by
  have ha := hi_bd a; have hb := hi_bd b; have la := lo_bd a; have lb := lo_bd b
  have e1 := fun w => add64_run0 (lo a) (lo b) la.1 lb.1 w
  have ua : 0 ≤ IntKind.u64.wrap (hi a) := by rw [IntKind.wrap_u64]; omega
  have ub : 0 ≤ IntKind.u64.wrap (hi b) := by rw [IntKind.wrap_u64]; omega
  have e2 := fun w => add64_run (IntKind.u64.wrap (hi a)) (IntKind.u64.wrap (hi b)) ((lo a + lo b) / 18446744073709551616) ua ub (by omega) (by omega) w
  have fin : Value.agg #[.int .i64 (wrap64 ((IntKind.u64.wrap (hi a) + IntKind.u64.wrap (hi b) + (lo a + lo b) / 18446744073709551616) % 18446744073709551616)), .int .u64 ((lo a + lo b) % 18446744073709551616)] = W (a + b) := by
    unfold W; rw [IntKind.wrap_u64, IntKind.wrap_u64]; refine agg2 ?_ ?_
    · unfold wrap64 hi lo; omega
    · unfold lo; omega
  have Fin : Hid _ := fin
  clear fin
  go_enter Tryd.func29, Tryd.ntmps29
  go_wp2
  refine bodyPost_ret (by simp [results, Tryd.results29, go_sem]; rfl) rfl ⟨?_, ?_⟩
  · exact congrArg _ Fin.out
  · repeat (first | exact Below.refl _ _ | refine Below.alloc ?_ (by simp; try omega) _)

theorem narrow_any (a : Int) (w : World) (ia : In a) :
    Calls Tryd.prog 45 #[W a] w fun e w' => e = .returned (narrowV a) ∧ Below w.heap.size w w' := by
  have bd : -9223372036854775808 ≤ wrap64 (lo a) ∧ wrap64 (lo a) ≤ 9223372036854775807 := by unfold wrap64; omega
  have el := lo_wrap a
  by_cases hh : hi (wrap64 (lo a)) = hi a
  all_goals
    go_enter Tryd.func45, Tryd.ntmps45
    go_wp2_with fail
    refine wp_gen (fun w' => w'.cell? ⟨w.heap.size, 0, none⟩ = some (.int .i64 (hi a)) ∧ w'.cell? ⟨w.heap.size, 1, none⟩ = some (.int .u64 (lo a)) ∧ w.heap.size < w'.heap.size ∧ Below w.heap.size w w') ⟨by simp, by simp, by simp, (Below.refl _ _).alloc (Nat.le_refl _) _⟩ ?_
    rintro w0 ⟨c1, c2, hs, hb0⟩
    go_region_held3 (fun w' => w'.cell? ⟨w.heap.size, 0, none⟩ = some (.int .i64 (hi a)) ∧ w'.cell? ⟨w.heap.size, 1, none⟩ = some (.int .u64 (lo a)) ∧ Below w0.heap.size w0 w') ((first | exact ⟨by simp [*], by simp [*], (Below.refl _ _).drew⟩ | exact keep2 ‹_› hb hs hs)) ((first | (go_at_call 30; refine (of_any _ _ bd).mono ?_; rintro e w' ⟨rfl, hb⟩)))
    have hB : Below w.heap.size w w' := hb0.trans (Below.mono (And.right (And.right ‹_ ∧ _ ∧ Below w0.heap.size w0 w'›)) (Nat.le_of_lt hs))
    clear el
    have Hh := Lib.hid hh
    clear hh
    go_wp2
    go_ret2
  · exact ⟨by unfold narrowV; obtain ⟨h1, h2⟩ := narrow_yes a ia Hh.out; rw [if_pos h1, h2]; rfl, hB⟩
  · exact ⟨by unfold narrowV; rw [if_neg (narrow_no a Hh.out)]; rfl, hB⟩
end Go.Proofs.YtflnchbamlcgaaaDoor
