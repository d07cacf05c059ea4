/- What the program's own wide numbers answer: Of, Add, Sub, Cmp, Sign, Narrow. -/
import Derived.Test.YtmdhlkdeadfgdaaProg
import Derived.Test.YtmdhlkdeadfgdaaNum
import Derived.WalkKit
import Derived.Deep.QuietTactic
import Derived.BigQuiet
import Derived.Laws.Externs
import Derived.Deep.RegionHeld3
import Derived.Deep.RegionWith
import Derived.Deep.DeepCutAuto
import Derived.Lib.Hide
import Derived.Shelf.Spec.BitsCarry
namespace Go.Proofs.Ytmdhlkdeadfgdaa
open Go.RowKit
set_option linter.unusedVariables false
set_option maxHeartbeats 400000

theorem below_dN {B : Nat} {a w : World} (h : Below B a w) (n : Nat) : Below B a (w.drewN n) := h.trans ⟨rfl, rfl, rfl, Nat.le_refl _, fun _ _ => rfl⟩

theorem add64_run (x y c : Int) (hx : 0 ≤ x) (hy : 0 ≤ y) (hc0 : 0 ≤ c) (hc : c ≤ 1) (w : World) :
    (callFunc 66 #[.int .u64 x, .int .u64 y, .int .u64 c]).run Try.prog w =
      .ok (.value (.tuple #[.int .u64 ((x + y + c) % 18446744073709551616), .int .u64 ((x + y + c) / 18446744073709551616)])) w := by
  rw [run_callFunc_extern Try.func66 (by kernel_rfl) (by kernel_rfl) (by kernel_rfl) (e := add64Entry) (by kernel_rfl), run_add64 x y c hx hy hc0 hc]
  rfl

theorem signWord_any (n : Int) (w : World) (h : -9223372036854775808 ≤ n ∧ n ≤ 9223372036854775807) :
    Calls Try.prog 65 #[.int .i64 n] w fun e w' => e = .returned (.int .i64 (hi n)) ∧ w = w' := by
  have e := hi_div n h
  go_enter Try.func65, Try.ntmps65
  go_wp2
  go_ret
  exact ⟨rfl, rfl⟩

theorem of_any (n : Int) (w : World) (h : -9223372036854775808 ≤ n ∧ n ≤ 9223372036854775807) :
    Calls Try.prog 53 #[.int .i64 n] w fun e w' => e = .returned (W n) ∧ Below w.heap.size w w' := by
  have e2 : IntKind.u64.wrap n = lo n := by rw [IntKind.wrap_u64]; rfl
  go_enter Try.func53, Try.ntmps53
  go_wp2_with fail
  refine (signWord_any _ _ h).mono ?_
  rintro e w' ⟨rfl, rfl⟩
  go_wp2
  exact bodyPost_ret (v := W n) (by simp [results, Try.results53, go_sem]) rfl ⟨rfl, (Below.refl _ _).alloc (Nat.le_refl _) _⟩

theorem add64_run0 (x y : Int) (hx : 0 ≤ x) (hy : 0 ≤ y) (w : World) :
    (callFunc 66 #[.int .u64 x, .int .u64 y, .int .u64 0]).run Try.prog w =
      .ok (.value (.tuple #[.int .u64 ((x + y) % 18446744073709551616), .int .u64 ((x + y) / 18446744073709551616)])) w := by
  have h := add64_run x y 0 hx hy (by omega) (by omega) w
  rw [Int.add_zero] at h
  exact h
theorem add_any (a b : Int) (w : World) :
    Calls Try.prog 52 #[W a, W b] w fun e w' => e = .returned (W (a + b)) ∧ Below w.heap.size w w' := by
  have ha := hi_bd a; have hb := hi_bd b; have la := lo_bd a; have lb := lo_bd b
  have e1 := fun w => add64_run0 (lo a) (lo b) la.1 lb.1 w
  have ua : 0 ≤ IntKind.u64.wrap (hi a) := by rw [IntKind.wrap_u64]; omega
  have ub : 0 ≤ IntKind.u64.wrap (hi b) := by rw [IntKind.wrap_u64]; omega
  have e2 := fun w => add64_run (IntKind.u64.wrap (hi a)) (IntKind.u64.wrap (hi b)) ((lo a + lo b) / 18446744073709551616) ua ub (by omega) (by omega) w
  have fin : Value.agg #[.int .i64 (wrap64 ((IntKind.u64.wrap (hi a) + IntKind.u64.wrap (hi b) + (lo a + lo b) / 18446744073709551616) % 18446744073709551616)), .int .u64 ((lo a + lo b) % 18446744073709551616)] = W (a + b) := by
    unfold W; rw [IntKind.wrap_u64, IntKind.wrap_u64]; refine agg2 ?_ ?_
    · unfold wrap64 hi lo; omega
    · unfold lo; omega
  have Fin : Hid _ := fin
  clear fin
  go_enter Try.func52, Try.ntmps52
  go_wp2
  refine bodyPost_ret (by simp [results, Try.results52, go_sem]; rfl) rfl ⟨?_, ?_⟩
  · exact congrArg _ Fin.out
  · repeat (first | exact Below.refl _ _ | refine Below.alloc ?_ (by simp; try omega) _)

theorem cmp_any (a b : Int) (w : World) (ia : In a) (ib : In b) :
    Calls Try.prog 68 #[W a, W b] w fun e w' => e = .returned (.int .i64 (cmpN a b)) ∧ Below w.heap.size w w' := by
  go_enter Try.func68, Try.ntmps68
  go_wp2
  all_goals
    go_ret
    refine ⟨ret_int (cmpN_words a b _ ia ib (by omega)), ?_⟩
    repeat (first | exact Below.refl _ _ | refine Below.alloc ?_ (by simp; try omega) _)

theorem sign_any (a : Int) (w : World) (ia : In a) :
    Calls Try.prog 59 #[W a] w fun e w' => e = .returned (.int .i64 (cmpN a 0)) ∧ Below w.heap.size w w' := by
  go_enter Try.func59, Try.ntmps59
  go_wp2_with fail
  have h := cmp_any a 0 (w.alloc (Obj.cells #[Value.int IntKind.i64 (hi a), Value.int IntKind.u64 (lo a)] 59)) ia (by unfold In; omega)
  rw [W, W, hi_0, lo_0] at h
  refine h.mono ?_
  rintro e w' ⟨rfl, hb⟩
  go_wp2
  go_ret
  exact ⟨rfl, ((Below.refl _ _).alloc (Nat.le_refl _) _).trans (hb.mono (by simp))⟩

theorem narrow_any (a : Int) (w : World) (ia : In a) :
    Calls Try.prog 67 #[W a] w fun e w' => e = .returned (narrowV a) ∧ Below w.heap.size w w' := by
  have bd : -9223372036854775808 ≤ wrap64 (lo a) ∧ wrap64 (lo a) ≤ 9223372036854775807 := by unfold wrap64; omega
  have el := lo_wrap a
  by_cases hh : hi (wrap64 (lo a)) = hi a
  all_goals
    go_enter Try.func67, Try.ntmps67
    go_wp2_with fail
    refine wp_gen (fun w' => w'.cell? ⟨w.heap.size, 0, none⟩ = some (.int .i64 (hi a)) ∧ w'.cell? ⟨w.heap.size, 1, none⟩ = some (.int .u64 (lo a)) ∧ w.heap.size < w'.heap.size ∧ Below w.heap.size w w') ⟨by simp, by simp, by simp, (Below.refl _ _).alloc (Nat.le_refl _) _⟩ ?_
    rintro w0 ⟨c1, c2, hs, hb0⟩
    go_region_held3 (fun w' => w'.cell? ⟨w.heap.size, 0, none⟩ = some (.int .i64 (hi a)) ∧ w'.cell? ⟨w.heap.size, 1, none⟩ = some (.int .u64 (lo a)) ∧ Below w0.heap.size w0 w') ((first | exact ⟨by simp [*], by simp [*], (Below.refl _ _).drew⟩ | exact keep2 ‹_› hb hs hs)) ((first | (go_at_call 53; refine (of_any _ _ bd).mono ?_; rintro e w' ⟨rfl, hb⟩)))
    have hB : Below w.heap.size w w' := hb0.trans (Below.mono (And.right (And.right ‹_ ∧ _ ∧ Below w0.heap.size w0 w'›)) (Nat.le_of_lt hs))
    clear el
    have Hh := Lib.hid hh
    clear hh
    go_wp2
    go_ret2
  · exact ⟨by unfold narrowV; obtain ⟨h1, h2⟩ := narrow_yes a ia Hh.out; rw [if_pos h1, h2]; rfl, hB⟩
  · exact ⟨by unfold narrowV; rw [if_neg (narrow_no a Hh.out)]; rfl, hB⟩
end Go.Proofs.Ytmdhlkdeadfgdaa
