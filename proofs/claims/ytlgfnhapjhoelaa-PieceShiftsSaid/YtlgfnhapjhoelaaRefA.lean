/- What the document's own wide numbers answer. -/
import Derived.Test.YtlgfnhapjhoelaaWideA
namespace Go.Proofs.Ytlgfnhapjhoelaa
open Go.RowKit
set_option linter.unusedVariables false
set_option maxHeartbeats 400000

theorem rof_any (n : Int) (w : World) (h : -9223372036854775808 ≤ n ∧ n ≤ 9223372036854775807) :
    Calls Try.prog 55 #[.int .i64 n] w fun e w' => e = .returned (W n) ∧ Below w.heap.size w w' := by
  have e2 : IntKind.u64.wrap n = lo n := by rw [IntKind.wrap_u64]; rfl
  have Fin := Lib.hid (hi_of n h)
  by_cases h0 : n < 0
  all_goals
    go_enter Try.func55, Try.ntmps55
    go_wp2
    refine bodyPost_ret (by simp [results, Try.results55, go_sem] <;> rfl) rfl ⟨?_, ?_⟩
    · rw [W, Fin.out]; simp [h0]
    · repeat (first | exact Below.refl _ _ | refine Below.alloc ?_ (by simp; try omega) _)

theorem radd_any (a b : Int) (w : World) :
    Calls Try.prog 47 #[W a, W b] w fun e w' => e = .returned (W (a + b)) ∧ Below w.heap.size w w' := by
  have ha := hi_bd a; have hb := hi_bd b; have la := lo_bd a; have lb := lo_bd b
  have eu : IntKind.u64.wrap (hi a) = hi a % 18446744073709551616 := IntKind.wrap_u64 _
  by_cases h0 : IntKind.u64.wrap (lo a + lo b) < lo a
  · have Fin := Lib.hid (show wrap64 (IntKind.u64.wrap (IntKind.u64.wrap (IntKind.u64.wrap (hi a) + IntKind.u64.wrap (hi b)) + 1)) = hi (a + b) ∧ IntKind.u64.wrap (lo a + lo b) = lo (a + b) by
      simp only [IntKind.wrap_u64] at h0 ⊢; unfold wrap64 hi lo at *; omega)
    clear eu
    go_enter Try.func47, Try.ntmps47
    go_wp2
    refine bodyPost_ret (by simp [results, Try.results47, go_sem] <;> rfl) rfl ⟨ret_agg2 Fin.out.1 Fin.out.2, ?_⟩
    repeat (first | exact Below.refl _ _ | refine Below.alloc ?_ (by simp; try omega) _)
  · have Fin := Lib.hid (show wrap64 (IntKind.u64.wrap (IntKind.u64.wrap (hi a) + IntKind.u64.wrap (hi b))) = hi (a + b) ∧ IntKind.u64.wrap (lo a + lo b) = lo (a + b) by
      simp only [IntKind.wrap_u64] at h0 ⊢; unfold wrap64 hi lo at *; omega)
    clear eu
    go_enter Try.func47, Try.ntmps47
    go_wp2
    refine bodyPost_ret (by simp [results, Try.results47, go_sem] <;> rfl) rfl ⟨ret_agg2 Fin.out.1 Fin.out.2, ?_⟩
    repeat (first | exact Below.refl _ _ | refine Below.alloc ?_ (by simp; try omega) _)

theorem rneg_any (a : Int) (w : World) :
    Calls Try.prog 49 #[W a] w fun e w' => e = .returned (W (-a)) ∧ Below w.heap.size w w' := by
  have ha := hi_bd a; have la := lo_bd a
  have n1 : IntKind.i64.wrap (-1 - hi a) = hi (-1 - a) := by rw [IntWalk.i64_in _ (by omega)]; unfold hi; omega
  have n2 : IntKind.u64.wrap (18446744073709551615 - lo a) = lo (-1 - a) := by rw [IntKind.wrap_u64]; unfold lo; omega
  have Hz := Lib.hid (show -1 - a + 1 = -a by omega)
  go_enter Try.func49, Try.ntmps49
  go_wp2_with fail
  refine wp_gen (fun w' => w'.cell? ⟨w.heap.size, 0, none⟩ = some (.int .i64 (hi a)) ∧ w'.cell? ⟨w.heap.size, 1, none⟩ = some (.int .u64 (lo a)) ∧ OwnN (w.heap.size + 1) 2 w' ∧ w.heap.size + 2 ≤ w'.heap.size ∧ Below w.heap.size w w') ⟨by simp [go_sem], by simp [go_sem], ?own, ?siz, ?bel⟩ ?_
  case own => exact OwnN.of_two ⟨_, by simp [go_sem]; rfl⟩ (by simp [go_sem]) ⟨_, by simp [go_sem]; rfl⟩ (by simp [go_sem])
  case siz => simp
  case bel => repeat (first | exact Below.refl _ _ | refine below_dN ?_ _ | refine Below.setCell ?_ (by simp; try omega) _ | refine Below.alloc ?_ (by simp; try omega) _)
  rintro w0 ⟨c1, c2, hown, hs, hb0⟩
  go_region_held3 (fun w' => w'.cell? ⟨w.heap.size, 0, none⟩ = some (.int .i64 (hi a)) ∧ w'.cell? ⟨w.heap.size, 1, none⟩ = some (.int .u64 (lo a)) ∧ OwnN (w.heap.size + 1) 2 w' ∧ w0.heap.size ≤ w'.heap.size ∧ Below w.heap.size w w') ((first | exact ⟨by simp [*], by simp [*], hown, Nat.le_refl _, hb0.drew⟩ | exact callR2 ‹_› hb (by omega) (by omega) (by dsimp only; omega) (by dsimp only; omega) | exact (setR2 (setR2 ‹_› _ _ (by omega) (by dsimp only; omega) (by dsimp only; omega)) _ _ (by omega) (by dsimp only; omega) (by dsimp only; omega)))) ((first | (go_at_call 55; refine (rof_any _ _ (by omega)).mono ?_; rintro e w' ⟨rfl, hb⟩) | (go_at_call 47; refine (radd_any _ _ _).mono ?_; rintro e w' ⟨rfl, hb⟩; have hS := callR2 ‹_› hb (by omega) (by omega) (by dsimp only; omega) (by dsimp only; omega); obtain ⟨⟨x0, hx0⟩, f0, ⟨x1, hx1⟩, f1⟩ := OwnN.two hS.2.2.1; clear hS)))
  go_wp2
  refine bodyPost_ret (by simp [results, Try.results49, go_sem, hx0, hx1] <;> rfl) rfl ⟨?_, ?_⟩
  · rw [Hz.out]
  · exact belR2 ‹_›

theorem rcmp_any (a b : Int) (w : World) (ia : In a) (ib : In b) :
    Calls Try.prog 39 #[W a, W b] w fun e w' => e = .returned (.int .i64 (cmpN a b)) ∧ Below w.heap.size w w' := by
  go_enter Try.func39, Try.ntmps39
  go_wp2
  all_goals
    go_ret
    refine ⟨ret_int (cmpN_words a b _ ia ib (by omega)), ?_⟩
    repeat (first | exact Below.refl _ _ | refine Below.alloc ?_ (by simp; try omega) _)

theorem rraised_any (n : Int) (w : World) (h : 0 ≤ n ∧ n ≤ 18446744073709551615) :
    Calls Try.prog 48 #[.int .u64 n] w fun e w' => e = .returned (W (n * 4294967296)) ∧ Below w.heap.size w w' := by
  have n1 : n / 4294967296 = hi (n * 4294967296) := by unfold hi; omega
  have n2 : n % 4294967296 * 4294967296 = lo (n * 4294967296) := by unfold lo; omega
  have Fin := Lib.hid (And.intro n1 n2)
  clear n1 n2
  go_enter Try.func48, Try.ntmps48
  go_wp2
  refine bodyPost_ret (by simp [results, Try.results48, go_sem] <;> rfl) rfl ⟨ret_agg2 Fin.out.1 Fin.out.2, ?_⟩
  repeat (first | exact Below.refl _ _ | refine Below.alloc ?_ (by simp; try omega) _)
end Go.Proofs.Ytlgfnhapjhoelaa
