/- What the document's own layer 5 answers: Miter. -/
import Derived.Test.YtfgkndfcddnhlaaRef4
import Derived.Test.YtfgkndfcddnhlaaSignNum
namespace Go.Proofs.Ytfgkndfcddnhlaa
open Go.RowKit
set_option linter.unusedVariables false
set_option linter.unusedSimpArgs false
set_option maxHeartbeats 4000000
set_option maxRecDepth 100000

theorem miter_is (x y u v l : Int) (h : 1 ≤ l) : miterV x y u v l = decide (cmpN (2 * (x * x + y * y)) ((if 64 < l then 64 else l) * (if 64 < l then 64 else l) * (x * x + y * y + (x * u + y * v))) ≤ 0) := by
  unfold miterV dotN m64 cmpN
  rw [decide_eq_decide]
  generalize (if 64 < l then 64 else l) * (if 64 < l then 64 else l) * (x * x + y * y + (x * u + y * v)) = Q
  generalize 2 * (x * x + y * y) = P
  constructor
  · rintro ⟨_, g⟩; split
    · omega
    · split <;> omega
  · intro g
    refine ⟨h, ?_⟩
    split at g
    · omega
    · split at g <;> omega
theorem r5miter_any (x y u v l : Int) (w : World) (hx : -1073741824 ≤ x ∧ x ≤ 1073741824) (hy : -1073741824 ≤ y ∧ y ≤ 1073741824) (hu : -1073741824 ≤ u ∧ u ≤ 1073741824) (hv : -1073741824 ≤ v ∧ v ≤ 1073741824) (hl : -9223372036854775808 ≤ l ∧ l ≤ 9223372036854775807) :
    Calls Try.prog 21 #[P2 x y, P2 u v, .int .i64 l] w fun e w' => e = .returned (.bool (miterV x y u v l)) ∧ Below w.heap.size w w' := by
  by_cases h0 : l < 1
  · rw [miter_low (by omega)]
    clear hl
    go_enter Try.func21, Try.ntmps21
    go_wp2
    go_ret
    exact ⟨rfl, ((Below.refl _ _).alloc (by simp) _).alloc (by simp) _⟩
  · rw [miter_is x y u v l (by omega)]
    obtain ⟨m, hm⟩ : ∃ m, (if 64 < l then 64 else l) = m := ⟨_, rfl⟩
    have bm : 1 ≤ m ∧ m ≤ 64 := by rw [← hm]; split <;> omega
    have p1 := prod_30 x x hx hx
    have p2 := prod_30 y y hy hy
    have p3 := prod_30 x u hx hu
    have p4 := prod_30 y v hy hv
    obtain ⟨n, hn⟩ : ∃ n, x * x + y * y = n := ⟨_, rfl⟩
    obtain ⟨d, hd⟩ : ∃ d, x * u + y * v = d := ⟨_, rfl⟩
    have bn : -2305843009213693952 ≤ n ∧ n ≤ 2305843009213693952 := by omega
    have bd : -2305843009213693952 ≤ d ∧ d ≤ 2305843009213693952 := by omega
    rw [hm, hn, hd]
    have pm := prod_near m m 64 64 (by omega) (by omega) (by omega) (by omega)
    obtain ⟨k, hk⟩ : ∃ k, m * m = k := ⟨_, rfl⟩
    rw [hk] at pm ⊢
    have bk : 0 ≤ k ∧ k ≤ 4096 := by refine ⟨?_, by omega⟩; rw [← hk]; exact Int.mul_nonneg (by omega) (by omega)
    obtain ⟨f, hf⟩ : ∃ f, n + d = f := ⟨_, rfl⟩
    have bf : -4611686018427387904 ≤ f ∧ f ≤ 4611686018427387904 := by omega
    rw [hf]
    have pq := prod_near k f 4096 4611686018427387904 (by omega) bf (by omega) (by omega)
    obtain ⟨r, hr⟩ : ∃ r, k * f = r := ⟨_, rfl⟩
    rw [hr] at pq ⊢
    obtain ⟨q, hq⟩ : ∃ q, 2 * n = q := ⟨_, rfl⟩
    rw [hq]
    obtain ⟨c, hc⟩ : ∃ c, cmpN q r = c := ⟨_, rfl⟩
    rw [hc]
    have DN0 := fun w => r4dot_any x y x y w hx hy hx hy
    simp only [hn] at DN0
    have DN := Lib.hid DN0
    clear DN0
    have DD0 := fun w => r4dot_any x y u v w hx hy hu hv
    simp only [hd] at DD0
    have DD := Lib.hid DD0
    clear DD0
    obtain ⟨wm, hwm⟩ : ∃ c, W q = c := ⟨_, rfl⟩
    obtain ⟨wn, hwn⟩ : ∃ c, W r = c := ⟨_, rfl⟩
    have MA0 := fun w => rmul_any 2 n w (by omega) (by omega)
    simp only [hq] at MA0
    simp only [hwm] at MA0
    have MA := Lib.hid MA0
    clear MA0
    have MB0 := fun w => rmul_any k f w (by omega) (by omega)
    simp only [hr] at MB0
    simp only [hwn] at MB0
    have MB := Lib.hid MB0
    clear MB0
    have CM0 := fun w => rcmp_any q r w (by unfold In; omega) (by unfold In; omega)
    simp only [hc] at CM0
    simp only [hwm, hwn] at CM0
    have CM := Lib.hid CM0
    clear CM0
    clear hwm hwn
    have e1 : IntKind.i64.wrap k = k := IntWalk.i64_in _ (by omega)
    have e2 : IntKind.i64.wrap f = f := IntWalk.i64_in _ (by omega)
    have e3 : IntKind.i64.wrap (m * m) = k := by rw [hk]; exact e1
    have e4 : IntKind.i64.wrap (n + d) = f := by rw [hf]; exact e2
    have H0 := Lib.hid h0
    have h0 : ¬ l < 1 := h0
    clear hl hn hd hq hr hc p1 p2 p3 p4 pm pq bn bd bf bm bk hx hy hu hv
    go_enter Try.func21, Try.ntmps21
    go_wp2_with fail
    refine (DN.out _).mono ?_
    rintro e w1 ⟨rfl, h1⟩
    have z1 := h1.size
    simp at z1
    have hs : w.heap.size + 1 + 1 ≤ w1.heap.size := by omega
    have c1 : w1.cell? ⟨w.heap.size, 0, none⟩ = some (.int .i64 (x)) := (h1.cell (p := ⟨w.heap.size, 0, none⟩) (by simp; try omega)).trans (by first | simp | simp [go_sem])
    have c2 : w1.cell? ⟨w.heap.size, 1, none⟩ = some (.int .i64 (y)) := (h1.cell (p := ⟨w.heap.size, 1, none⟩) (by simp; try omega)).trans (by first | simp | simp [go_sem])
    have c3 : w1.cell? ⟨w.heap.size + 1, 0, none⟩ = some (.int .i64 (u)) := (h1.cell (p := ⟨w.heap.size + 1, 0, none⟩) (by simp; try omega)).trans (by first | simp | simp [go_sem])
    have c4 : w1.cell? ⟨w.heap.size + 1, 1, none⟩ = some (.int .i64 (v)) := (h1.cell (p := ⟨w.heap.size + 1, 1, none⟩) (by simp; try omega)).trans (by first | simp | simp [go_sem])
    have hb0 : Below w.heap.size w w1 := (((Below.refl _ _).alloc (by simp; try omega) _).alloc (by simp; try omega) _).trans (h1.mono (by simp; try omega))
    clear h1 z1
    go_wp2_with fail
    first | (go_region_held3 (fun w' => w'.cell? ⟨w.heap.size, 0, none⟩ = some (.int .i64 (x)) ∧ w'.cell? ⟨w.heap.size, 1, none⟩ = some (.int .i64 (y)) ∧ w'.cell? ⟨w.heap.size + 1, 0, none⟩ = some (.int .i64 (u)) ∧ w'.cell? ⟨w.heap.size + 1, 1, none⟩ = some (.int .i64 (v)) ∧ Below w1.heap.size w1 w') ((first | assumption | exact ⟨by simp [*], by simp [*], by simp [*], by simp [*], (Below.refl _ _).drew⟩ | exact keep4 ‹_› hb (by dsimp only; omega) (by dsimp only; omega) (by dsimp only; omega) (by dsimp only; omega) | exact keepA4 ‹_› _ (by dsimp only; omega) (by dsimp only; omega) (by dsimp only; omega) (by dsimp only; omega) | exact keepS4 (keepS4 ‹_› _ _ (by dsimp only; omega) (by dsimp only; omega) (by dsimp only; omega) (by dsimp only; omega) (by dsimp only; omega)) _ _ (by dsimp only; omega) (by dsimp only; omega) (by dsimp only; omega) (by dsimp only; omega) (by dsimp only; omega))) ((first | (go_at_call 27; with_reducible refine (DD.out _).mono ?_; rintro e w' ⟨rfl, hb⟩) | (go_at_call 37; with_reducible refine (MA.out _).mono ?_; rintro e w' ⟨rfl, hb⟩) | (go_at_call 37; with_reducible refine (MB.out _).mono ?_; rintro e w' ⟨rfl, hb⟩) | (go_at_call 36; with_reducible refine (CM.out _).mono ?_; rintro e w' ⟨rfl, hb⟩)))) | fail
    all_goals
      have hF0 := belK4 ‹_ ∧ _ ∧ _ ∧ _ ∧ Below w1.heap.size w1 _›
      have hF := hb0.trans (hF0.mono (by omega))
      by_cases hc0 : c ≤ 0
      all_goals
        go_wp2
        go_ret
        exact ⟨by simp [*], hF⟩

end Go.Proofs.Ytfgkndfcddnhlaa
