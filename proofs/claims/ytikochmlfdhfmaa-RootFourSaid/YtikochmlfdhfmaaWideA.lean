/- What the program's own wide numbers answer: Of, Add, Sub, Cmp, Sign, Narrow. -/
import Derived.Test.YtikochmlfdhfmaaProg
import Derived.Test.YtikochmlfdhfmaaNum
import Derived.WalkKit
import Derived.Deep.QuietTactic
import Derived.BigQuiet
import Derived.Laws.Externs
import Derived.Deep.RegionHeld3
import Derived.Deep.RegionWith
import Derived.Deep.DeepCutAuto
import Derived.Lib.Hide
import Derived.Shelf.Spec.BitsCarry
namespace Go.Proofs.Ytikochmlfdhfmaa
open Go.RowKit
set_option linter.unusedVariables false
set_option maxHeartbeats 400000

theorem below_dN {B : Nat} {a w : World} (h : Below B a w) (n : Nat) : Below B a (w.drewN n) := h.trans ⟨rfl, rfl, rfl, Nat.le_refl _, fun _ _ => rfl⟩

theorem add64_run (x y c : Int) (hx : 0 ≤ x) (hy : 0 ≤ y) (hc0 : 0 ≤ c) (hc : c ≤ 1) (w : World) :
    (callFunc 26 #[.int .u64 x, .int .u64 y, .int .u64 c]).run Try.prog w =
      .ok (.value (.tuple #[.int .u64 ((x + y + c) % 18446744073709551616), .int .u64 ((x + y + c) / 18446744073709551616)])) w := by
  rw [run_callFunc_extern Try.func26 (by kernel_rfl) (by kernel_rfl) (by kernel_rfl) (e := add64Entry) (by kernel_rfl), run_add64 x y c hx hy hc0 hc]
  rfl

theorem sub64_run (x y b : Int) (hx : 0 ≤ x ∧ x ≤ 18446744073709551615) (hy : 0 ≤ y ∧ y ≤ 18446744073709551615) (hb0 : 0 ≤ b) (hb : b ≤ 1) (w : World) :
    (callFunc 25 #[.int .u64 x, .int .u64 y, .int .u64 b]).run Try.prog w =
      .ok (.value (.tuple #[.int .u64 ((x - y - b) % 18446744073709551616), .int .u64 (bw (x - y - b))])) w := by
  obtain ⟨x, rfl⟩ := Int.eq_ofNat_of_zero_le hx.1
  obtain ⟨y, rfl⟩ := Int.eq_ofNat_of_zero_le hy.1
  obtain ⟨b, rfl⟩ := Int.eq_ofNat_of_zero_le hb0
  rw [run_callFunc_extern Try.func25 (by kernel_rfl) (by kernel_rfl) (by kernel_rfl) (e := sub64Entry) (by kernel_rfl), run_sub64 x y b (by omega)]
  have e1 : (((x + 18446744073709551616 - y - b) % 18446744073709551616 : Nat) : Int) = ((x : Int) - y - b) % 18446744073709551616 := by omega
  have e2 : ((if x < y + b then 1 else 0 : Nat) : Int) = bw ((x : Int) - y - b) := by unfold bw; split <;> split <;> omega
  rw [e1, e2]
  rfl

theorem signWord_any (n : Int) (w : World) (h : -9223372036854775808 ≤ n ∧ n ≤ 9223372036854775807) :
    Calls Try.prog 24 #[.int .i64 n] w fun e w' => e = .returned (.int .i64 (hi n)) ∧ w = w' := by
  have e := hi_div n h
  go_enter Try.func24, Try.ntmps24
  go_wp2
  go_ret
  exact ⟨rfl, rfl⟩

theorem of_any (n : Int) (w : World) (h : -9223372036854775808 ≤ n ∧ n ≤ 9223372036854775807) :
    Calls Try.prog 18 #[.int .i64 n] w fun e w' => e = .returned (W n) ∧ Below w.heap.size w w' := by
  have e2 : IntKind.u64.wrap n = lo n := by rw [IntKind.wrap_u64]; rfl
  go_enter Try.func18, Try.ntmps18
  go_wp2_with fail
  refine (signWord_any _ _ h).mono ?_
  rintro e w' ⟨rfl, rfl⟩
  go_wp2
  exact bodyPost_ret (v := W n) (by simp [results, Try.results18, go_sem]) rfl ⟨rfl, (Below.refl _ _).alloc (Nat.le_refl _) _⟩

theorem add64_run0 (x y : Int) (hx : 0 ≤ x) (hy : 0 ≤ y) (w : World) :
    (callFunc 26 #[.int .u64 x, .int .u64 y, .int .u64 0]).run Try.prog w =
      .ok (.value (.tuple #[.int .u64 ((x + y) % 18446744073709551616), .int .u64 ((x + y) / 18446744073709551616)])) w := by
  have h := add64_run x y 0 hx hy (by omega) (by omega) w
  rw [Int.add_zero] at h
  exact h
theorem sub64_run0 (x y : Int) (hx : 0 ≤ x ∧ x ≤ 18446744073709551615) (hy : 0 ≤ y ∧ y ≤ 18446744073709551615) (w : World) :
    (callFunc 25 #[.int .u64 x, .int .u64 y, .int .u64 0]).run Try.prog w =
      .ok (.value (.tuple #[.int .u64 ((x - y) % 18446744073709551616), .int .u64 (bw (x - y))])) w := by
  have h := sub64_run x y 0 hx hy (by omega) (by omega) w
  rw [Int.sub_zero] at h
  exact h

theorem add_any (a b : Int) (w : World) :
    Calls Try.prog 19 #[W a, W b] w fun e w' => e = .returned (W (a + b)) ∧ Below w.heap.size w w' := by
  have ha := hi_bd a; have hb := hi_bd b; have la := lo_bd a; have lb := lo_bd b
  have e1 := fun w => add64_run0 (lo a) (lo b) la.1 lb.1 w
  have ua : 0 ≤ IntKind.u64.wrap (hi a) := by rw [IntKind.wrap_u64]; omega
  have ub : 0 ≤ IntKind.u64.wrap (hi b) := by rw [IntKind.wrap_u64]; omega
  have e2 := fun w => add64_run (IntKind.u64.wrap (hi a)) (IntKind.u64.wrap (hi b)) ((lo a + lo b) / 18446744073709551616) ua ub (by omega) (by omega) w
  have fin : Value.agg #[.int .i64 (wrap64 ((IntKind.u64.wrap (hi a) + IntKind.u64.wrap (hi b) + (lo a + lo b) / 18446744073709551616) % 18446744073709551616)), .int .u64 ((lo a + lo b) % 18446744073709551616)] = W (a + b) := by
    unfold W; rw [IntKind.wrap_u64, IntKind.wrap_u64]; refine agg2 ?_ ?_
    · unfold wrap64 hi lo; omega
    · unfold lo; omega
  have Fin : Hid _ := fin
  clear fin
  go_enter Try.func19, Try.ntmps19
  go_wp2
  refine bodyPost_ret (by simp [results, Try.results19, go_sem]; rfl) rfl ⟨?_, ?_⟩
  · exact congrArg _ Fin.out
  · repeat (first | exact Below.refl _ _ | refine Below.alloc ?_ (by simp; try omega) _)

theorem sub_any (a b : Int) (w : World) :
    Calls Try.prog 17 #[W a, W b] w fun e w' => e = .returned (W (a - b)) ∧ Below w.heap.size w w' := by
  have ha := hi_bd a; have hb := hi_bd b; have la := lo_bd a; have lb := lo_bd b
  have e1 := fun w => sub64_run0 (lo a) (lo b) la lb w
  have ua : 0 ≤ IntKind.u64.wrap (hi a) ∧ IntKind.u64.wrap (hi a) ≤ 18446744073709551615 := by rw [IntKind.wrap_u64]; omega
  have ub : 0 ≤ IntKind.u64.wrap (hi b) ∧ IntKind.u64.wrap (hi b) ≤ 18446744073709551615 := by rw [IntKind.wrap_u64]; omega
  have e2 := fun w => sub64_run (IntKind.u64.wrap (hi a)) (IntKind.u64.wrap (hi b)) (bw (lo a - lo b)) ua ub (bw_bd _).1 (bw_bd _).2 w
  have fin : Value.agg #[.int .i64 (wrap64 ((IntKind.u64.wrap (hi a) - IntKind.u64.wrap (hi b) - bw (lo a - lo b)) % 18446744073709551616)), .int .u64 ((lo a - lo b) % 18446744073709551616)] = W (a - b) := by
    unfold W; rw [IntKind.wrap_u64, IntKind.wrap_u64]; refine agg2 ?_ ?_
    · unfold wrap64 bw hi lo; split <;> omega
    · unfold lo; omega
  have Fin : Hid _ := fin
  clear fin
  go_enter Try.func17, Try.ntmps17
  go_wp2
  refine bodyPost_ret (by simp [results, Try.results17, go_sem]; rfl) rfl ⟨?_, ?_⟩
  · exact congrArg _ Fin.out
  · repeat (first | exact Below.refl _ _ | refine Below.alloc ?_ (by simp; try omega) _)

theorem cmp_any (a b : Int) (w : World) (ia : In a) (ib : In b) :
    Calls Try.prog 27 #[W a, W b] w fun e w' => e = .returned (.int .i64 (cmpN a b)) ∧ Below w.heap.size w w' := by
  go_enter Try.func27, Try.ntmps27
  go_wp2
  all_goals
    go_ret
    refine ⟨ret_int (cmpN_words a b _ ia ib (by omega)), ?_⟩
    repeat (first | exact Below.refl _ _ | refine Below.alloc ?_ (by simp; try omega) _)

theorem sign_any (a : Int) (w : World) (ia : In a) :
    Calls Try.prog 20 #[W a] w fun e w' => e = .returned (.int .i64 (cmpN a 0)) ∧ Below w.heap.size w w' := by
  go_enter Try.func20, Try.ntmps20
  go_wp2_with fail
  have h := cmp_any a 0 (w.alloc (Obj.cells #[Value.int IntKind.i64 (hi a), Value.int IntKind.u64 (lo a)] 24)) ia (by unfold In; omega)
  rw [W, W, hi_0, lo_0] at h
  refine h.mono ?_
  rintro e w' ⟨rfl, hb⟩
  go_wp2
  go_ret
  exact ⟨rfl, ((Below.refl _ _).alloc (Nat.le_refl _) _).trans (hb.mono (by simp))⟩

end Go.Proofs.Ytikochmlfdhfmaa
