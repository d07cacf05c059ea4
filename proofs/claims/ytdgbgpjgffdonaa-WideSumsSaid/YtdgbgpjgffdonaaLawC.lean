/- The walk of WideSums. -/
import Derived.Test.YtdgbgpjgffdonaaLawA
import Derived.Test.YtdgbgpjgffdonaaRefB
import Derived.Test.YtdgbgpjgffdonaaMore
namespace Go.Proofs.Ytdgbgpjgffdonaa
open Go.RowKit
set_option linter.unusedVariables false
set_option maxHeartbeats 2000000

theorem walk_WideSums (a b m n : Int) (w : World) (ia : In a) (ib : In b) (hm : -9223372036854775808 ≤ m ∧ m ≤ 9223372036854775807) (hn : -9223372036854775808 ≤ n ∧ n ≤ 9223372036854775807) :
    Calls Try.prog 3 #[W a, W b, .int .i64 m, .int .i64 n] w fun e w' => e = .returned (.bool true) ∧ Below w.heap.size w w' := by
  go_enter Try.func3, Try.ntmps3
  go_wp2_with fail
  refine any_gen (fun w' => w'.cell? ⟨w.heap.size, 0, none⟩ = some (.int .i64 (hi a)) ∧ w'.cell? ⟨w.heap.size, 1, none⟩ = some (.int .u64 (lo a)) ∧ w'.cell? ⟨w.heap.size + 1, 0, none⟩ = some (.int .i64 (hi b)) ∧ w'.cell? ⟨w.heap.size + 1, 1, none⟩ = some (.int .u64 (lo b)) ∧ w'.cell? ⟨w.heap.size + 1 + 1, 0, none⟩ = some (.int .i64 (hi a)) ∧ w'.cell? ⟨w.heap.size + 1 + 1, 1, none⟩ = some (.int .u64 (lo a)) ∧ w'.cell? ⟨w.heap.size + 1 + 1 + 1, 0, none⟩ = some (.int .i64 (hi b)) ∧ w'.cell? ⟨w.heap.size + 1 + 1 + 1, 1, none⟩ = some (.int .u64 (lo b)) ∧ w.heap.size + 4 ≤ w'.heap.size ∧ Below w.heap.size w w') ⟨by simp [go_sem], by simp [go_sem], by simp [go_sem], by simp [go_sem], by simp [go_sem], by simp [go_sem], by simp [go_sem], by simp [go_sem], ?siz, ?bel⟩ ?_
  case siz => simp
  case bel => repeat (first | exact Below.refl _ _ | refine below_dN ?_ _ | refine Below.setCell ?_ (by simp; try omega) _ | refine Below.alloc ?_ (by simp; try omega) _)
  rintro w0 ⟨c1, c2, c3, c4, c5, c6, c7, c8, hs, hb0⟩
  go_region_held3 (fun w' => w'.cell? ⟨w.heap.size, 0, none⟩ = some (.int .i64 (hi a)) ∧ w'.cell? ⟨w.heap.size, 1, none⟩ = some (.int .u64 (lo a)) ∧ w'.cell? ⟨w.heap.size + 1, 0, none⟩ = some (.int .i64 (hi b)) ∧ w'.cell? ⟨w.heap.size + 1, 1, none⟩ = some (.int .u64 (lo b)) ∧ w'.cell? ⟨w.heap.size + 1 + 1, 0, none⟩ = some (.int .i64 (hi a)) ∧ w'.cell? ⟨w.heap.size + 1 + 1, 1, none⟩ = some (.int .u64 (lo a)) ∧ w'.cell? ⟨w.heap.size + 1 + 1 + 1, 0, none⟩ = some (.int .i64 (hi b)) ∧ w'.cell? ⟨w.heap.size + 1 + 1 + 1, 1, none⟩ = some (.int .u64 (lo b)) ∧ Below w0.heap.size w0 w') ((first | exact ⟨by simp [*], by simp [*], by simp [*], by simp [*], by simp [*], by simp [*], by simp [*], by simp [*], (Below.refl _ _).drew⟩ | exact keep8 ‹_› hb (by dsimp only; omega) (by dsimp only; omega) (by dsimp only; omega) (by dsimp only; omega) (by dsimp only; omega) (by dsimp only; omega) (by dsimp only; omega) (by dsimp only; omega) | exact keepA8 ‹_› _ (by dsimp only; omega) (by dsimp only; omega) (by dsimp only; omega) (by dsimp only; omega) (by dsimp only; omega) (by dsimp only; omega) (by dsimp only; omega) (by dsimp only; omega) | exact keepS8 (keepS8 ‹_› _ _ (by dsimp only; omega) (by dsimp only; omega) (by dsimp only; omega) (by dsimp only; omega) (by dsimp only; omega) (by dsimp only; omega) (by dsimp only; omega) (by dsimp only; omega) (by dsimp only; omega)) _ _ (by dsimp only; omega) (by dsimp only; omega) (by dsimp only; omega) (by dsimp only; omega) (by dsimp only; omega) (by dsimp only; omega) (by dsimp only; omega) (by dsimp only; omega) (by dsimp only; omega))) ((first | (go_at_call 9; refine (add_any a b _).mono ?_; rintro e w' ⟨rfl, hb⟩) | (go_at_call 10; refine (radd_any a b _).mono ?_; rintro e w' ⟨rfl, hb⟩) | (go_at_call 11; refine (sub_any a b _).mono ?_; rintro e w' ⟨rfl, hb⟩) | (go_at_call 12; refine (rsub_any a b _).mono ?_; rintro e w' ⟨rfl, hb⟩) | (go_at_call 13; refine (cmp_any a b _ ia ib).mono ?_; rintro e w' ⟨rfl, hb⟩) | (go_at_call 14; refine (rcmp_any a b _ ia ib).mono ?_; rintro e w' ⟨rfl, hb⟩) | (go_at_call 15; refine (sign_any a _ ia).mono ?_; rintro e w' ⟨rfl, hb⟩) | (go_at_call 16; refine (rsign_any a _ ia).mono ?_; rintro e w' ⟨rfl, hb⟩) | (go_at_call 17; refine (mul_any m n _ hm hn).mono ?_; rintro e w' ⟨rfl, hb⟩) | (go_at_call 18; refine (rmul_any m n _ hm hn).mono ?_; rintro e w' ⟨rfl, hb⟩) | (go_at_call 19; refine (of_any m _ hm).mono ?_; rintro e w' ⟨rfl, hb⟩) | (go_at_call 20; refine (rof_any m _ hm).mono ?_; rintro e w' ⟨rfl, hb⟩) | (go_at_call 21; refine (shown_any _).mono ?_; rintro e w' ⟨rfl, hb⟩)))
  have hF := belK8 ‹_ ∧ _ ∧ _ ∧ _ ∧ _ ∧ _ ∧ _ ∧ _ ∧ Below w0.heap.size w0 _›
  go_wp2
  go_ret
  exact ⟨rfl, hb0.trans (hF.mono (by omega))⟩
end Go.Proofs.Ytdgbgpjgffdonaa
