/- What the program's own vectors answer: products, lengths, and what lies on the way. -/
import Derived.Test.YtmdhlkdeadfgdaaVecA
namespace Go.Proofs.Ytmdhlkdeadfgdaa
open Go.RowKit
set_option linter.unusedVariables false
set_option linter.unusedSimpArgs false
set_option maxHeartbeats 2000000

theorem pcross_any (x y u v : Int) (w : World) (hx : -1073741824 ≤ x ∧ x ≤ 1073741824) (hy : -1073741824 ≤ y ∧ y ≤ 1073741824) (hu : -1073741824 ≤ u ∧ u ≤ 1073741824) (hv : -1073741824 ≤ v ∧ v ≤ 1073741824) :
    Calls Try.prog 35 #[V2 x y u v] w fun e w' => e = .returned (.int .i64 (x * v - y * u)) ∧ Below w.heap.size w w' := by
  have VAL := Lib.hid (show (-y) * u + x * v = x * v - y * u by rw [Int.neg_mul]; omega)
  have LF := Lib.hid (fun w => pleft_any x y w (by omega) (by omega))
  have DO := Lib.hid (fun w => vdot_any (-y) x u v w (by omega) hx hu hv)
  clear hx hy hu hv
  go_enter Try.func35, Try.ntmps35
  go_wp2_with fail
  refine any_gen (fun w' => w'.cell? ⟨w.heap.size, 0, none⟩ = some (.int .i64 (x)) ∧ w'.cell? ⟨w.heap.size, 1, none⟩ = some (.int .i64 (y)) ∧ w'.cell? ⟨w.heap.size, 2, none⟩ = some (.int .i64 (u)) ∧ w'.cell? ⟨w.heap.size, 3, none⟩ = some (.int .i64 (v)) ∧ w.heap.size + 1 ≤ w'.heap.size ∧ Below w.heap.size w w') ⟨by simp [go_sem], by simp [go_sem], by simp [go_sem], by simp [go_sem], ?siz, ?bel⟩ ?_
  case siz => simp
  case bel => repeat (first | exact Below.refl _ _ | refine below_dN ?_ _ | refine Below.setCell ?_ (by simp; try omega) _ | refine Below.alloc ?_ (by simp; try omega) _)
  rintro w0 ⟨c1, c2, c3, c4, hs, hb0⟩
  first | (go_region_held3 (fun w' => w'.cell? ⟨w.heap.size, 0, none⟩ = some (.int .i64 (x)) ∧ w'.cell? ⟨w.heap.size, 1, none⟩ = some (.int .i64 (y)) ∧ w'.cell? ⟨w.heap.size, 2, none⟩ = some (.int .i64 (u)) ∧ w'.cell? ⟨w.heap.size, 3, none⟩ = some (.int .i64 (v)) ∧ Below w0.heap.size w0 w') ((first | assumption | exact ⟨by simp [*], by simp [*], by simp [*], by simp [*], (Below.refl _ _).drew⟩ | exact keep4 ‹_› hb (by (try dsimp only); omega) (by (try dsimp only); omega) (by (try dsimp only); omega) (by (try dsimp only); omega) | exact keepA4 ‹_› _ (by (try dsimp only); omega) (by (try dsimp only); omega) (by (try dsimp only); omega) (by (try dsimp only); omega) | exact keepS4 (keepS4 ‹_› _ _ (by (try dsimp only); omega) (by (try dsimp only); omega) (by (try dsimp only); omega) (by (try dsimp only); omega) (by (try dsimp only); omega)) _ _ (by (try dsimp only); omega) (by (try dsimp only); omega) (by (try dsimp only); omega) (by (try dsimp only); omega) (by (try dsimp only); omega))) ((first | (go_at_call 33; refine (LF.out _).mono ?_; rintro e w' ⟨rfl, hb⟩) | (go_at_call 20; refine (DO.out _).mono ?_; rintro e w' ⟨rfl, hb⟩)))) | fail
  have hF := belK4 ‹_ ∧ _ ∧ _ ∧ _ ∧ Below w0.heap.size w0 _›
  go_wp2
  go_ret
  exact ⟨by rw [VAL.out]; rfl, hb0.trans (hF.mono (by omega))⟩

theorem vcross_any (x y u v : Int) (w : World) (hx : -1073741824 ≤ x ∧ x ≤ 1073741824) (hy : -1073741824 ≤ y ∧ y ≤ 1073741824) (hu : -1073741824 ≤ u ∧ u ≤ 1073741824) (hv : -1073741824 ≤ v ∧ v ≤ 1073741824) :
    Calls Try.prog 22 #[P2 x y, P2 u v] w fun e w' => e = .returned (.int .i64 (x * v - y * u)) ∧ Below w.heap.size w w' := by
  have C := Lib.hid (fun w => pcross_any x y u v w hx hy hu hv)
  go_enter Try.func22, Try.ntmps22
  go_wp2_with fail
  refine (C.out _).mono ?_
  rintro e w1 ⟨rfl, h1⟩
  have z1 := h1.size
  simp at z1
  have hB := Below.trans (show Below w.heap.size w _ from (by repeat (first | exact Below.refl _ _ | refine below_dN ?_ _ | refine Below.setCell ?_ (by first | (simp; done) | (simp; omega)) _ | refine Below.alloc ?_ (by first | (simp; done) | (simp; omega)) _))) (h1.mono (by first | (simp; done) | (simp; omega)))
  clear h1
  go_wp2
  go_ret
  exact ⟨rfl, hB⟩

theorem plen_any (x y : Int) (w : World) (hx : -1073741824 ≤ x ∧ x ≤ 1073741824) (hy : -1073741824 ≤ y ∧ y ≤ 1073741824) :
    Calls Try.prog 36 #[V1 x y] w fun e w' => e = .returned (.int .i64 (lenN x y : Nat)) ∧ Below w.heap.size w w' := by
  have s1 := sq_near x hx
  have s2 := sq_near y hy
  have lb := lenN_bd x y hx hy
  obtain ⟨N, hN⟩ := Int.eq_ofNat_of_zero_le (show 0 ≤ x * x + y * y by omega)
  obtain ⟨L, hL⟩ : ∃ L, lenN x y = L := ⟨_, rfl⟩
  have HL := Lib.hid (show rt N = L by rw [← hL]; unfold lenN; rw [hN]; rfl)
  have HN := Lib.hid hN
  rw [hL] at lb ⊢
  have e1 : IntKind.u64.wrap (N : Int) = (N : Int) := IntWalk.u64_in _ (by omega)
  have e2 : wrap64 (L : Int) = (L : Int) := by unfold wrap64; omega
  have e3 : IntKind.i64.wrap (L : Int) = (L : Int) := IntWalk.i64_in _ (by omega)
  have DOT := Lib.hid (fun w => pdot_any x y x y w hx hy hx hy)
  have bN : N < 18446744073709551616 := by omega
  clear s1 s2 hN hL hx hy
  go_enter Try.func36, Try.ntmps36
  go_wp2_with fail
  refine (DOT.out _).mono ?_
  rintro e w1 ⟨rfl, h1⟩
  rw [HN.out]
  go_wp2_with fail
  refine (sqrt_any N _ bN).mono ?_
  rintro e w2 ⟨rfl, h2⟩
  rw [HL.out]
  go_wp2
  go_ret
  have z1 := h1.size
  simp at z1
  exact ⟨rfl, (((Below.refl _ _).alloc (by simp) _).trans (h1.mono (by simp))).trans (h2.mono (by omega))⟩

theorem vlen_any (x y : Int) (w : World) (hx : -1073741824 ≤ x ∧ x ≤ 1073741824) (hy : -1073741824 ≤ y ∧ y ≤ 1073741824) :
    Calls Try.prog 24 #[P2 x y] w fun e w' => e = .returned (.int .i64 (lenN x y : Nat)) ∧ Below w.heap.size w w' := by
  have C := Lib.hid (fun w => plen_any x y w hx hy)
  go_enter Try.func24, Try.ntmps24
  go_wp2_with fail
  refine (C.out _).mono ?_
  rintro e w1 ⟨rfl, h1⟩
  have z1 := h1.size
  simp at z1
  have hB := Below.trans (show Below w.heap.size w _ from (by repeat (first | exact Below.refl _ _ | refine below_dN ?_ _ | refine Below.setCell ?_ (by first | (simp; done) | (simp; omega)) _ | refine Below.alloc ?_ (by first | (simp; done) | (simp; omega)) _))) (h1.mono (by first | (simp; done) | (simp; omega)))
  clear h1
  go_wp2
  go_ret
  exact ⟨rfl, hB⟩

theorem vsub_any (x y u v : Int) (w : World) (hx : -2147483648 ≤ x ∧ x ≤ 2147483648) (hy : -2147483648 ≤ y ∧ y ≤ 2147483648) (hu : -2147483648 ≤ u ∧ u ≤ 2147483648) (hv : -2147483648 ≤ v ∧ v ≤ 2147483648) :
    Calls Try.prog 14 #[P2 x y, P2 u v] w fun e w' => e = .returned (P2 (x - u) (y - v)) ∧ Below w.heap.size w w' := by
  have Hx := Lib.hid (show x + -u = x - u by omega)
  have Hy := Lib.hid (show y + -v = y - v by omega)
  have NEG := Lib.hid (fun w => vneg_any u v w hu hv)
  have ADD := Lib.hid (fun w => vadd_any x y (-u) (-v) w hx hy (by omega) (by omega))
  clear hx hy hu hv
  go_enter Try.func14, Try.ntmps14
  go_wp2_with fail
  refine wp_gen (fun w' => w'.cell? ⟨w.heap.size, 0, none⟩ = some (.int .i64 (x)) ∧ w'.cell? ⟨w.heap.size, 1, none⟩ = some (.int .i64 (y)) ∧ w'.cell? ⟨w.heap.size + 1, 0, none⟩ = some (.int .i64 (u)) ∧ w'.cell? ⟨w.heap.size + 1, 1, none⟩ = some (.int .i64 (v)) ∧ OwnN (w.heap.size + 1 + 1) 2 w' ∧ w.heap.size + 3 ≤ w'.heap.size ∧ Below w.heap.size w w') ⟨by simp [go_sem], by simp [go_sem], by simp [go_sem], by simp [go_sem], ?own, ?siz, ?bel⟩ ?_
  case own => exact OwnN.of_two ⟨_, by simp [go_sem]; rfl⟩ (by simp [go_sem]) ⟨_, by simp [go_sem]; rfl⟩ (by simp [go_sem])
  case siz => simp
  case bel => repeat (first | exact Below.refl _ _ | refine below_dN ?_ _ | refine Below.setCell ?_ (by simp; try omega) _ | refine Below.alloc ?_ (by simp; try omega) _)
  rintro w0 ⟨c1, c2, c3, c4, hown, hs, hb0⟩
  go_region_held3 (fun w' => w'.cell? ⟨w.heap.size, 0, none⟩ = some (.int .i64 (x)) ∧ w'.cell? ⟨w.heap.size, 1, none⟩ = some (.int .i64 (y)) ∧ w'.cell? ⟨w.heap.size + 1, 0, none⟩ = some (.int .i64 (u)) ∧ w'.cell? ⟨w.heap.size + 1, 1, none⟩ = some (.int .i64 (v)) ∧ OwnN (w.heap.size + 1 + 1) 2 w' ∧ w0.heap.size ≤ w'.heap.size ∧ Below w.heap.size w w') ((first | assumption | exact ⟨by simp [*], by simp [*], by simp [*], by simp [*], hown, Nat.le_refl _, hb0.drew⟩ | exact callR4 ‹_› hb (by omega) (by omega) (by (try dsimp only); omega) (by (try dsimp only); omega) (by (try dsimp only); omega) (by (try dsimp only); omega) | exact (setR4 (setR4 ‹_› _ _ (by omega) (by (try dsimp only); omega) (by (try dsimp only); omega) (by (try dsimp only); omega) (by (try dsimp only); omega)) _ _ (by omega) (by (try dsimp only); omega) (by (try dsimp only); omega) (by (try dsimp only); omega) (by (try dsimp only); omega)))) ((first | (go_at_call 16; refine (NEG.out _).mono ?_; rintro e w' ⟨rfl, hb⟩) | (go_at_call 12; refine (ADD.out _).mono ?_; rintro e w' ⟨rfl, hb⟩; have hS := callR4 ‹_› hb (by omega) (by omega) (by (try dsimp only); omega) (by (try dsimp only); omega) (by (try dsimp only); omega) (by (try dsimp only); omega); obtain ⟨⟨x0, hx0⟩, f0, ⟨x1, hx1⟩, f1⟩ := OwnN.two hS.2.2.2.2.1; clear hS)))
  go_wp2
  refine bodyPost_ret (by simp [results, Try.results14, go_sem, hx0, hx1] <;> rfl) rfl ⟨?_, ?_⟩
  · rw [Hx.out, Hy.out]
  · exact belR4 ‹_›

theorem pshare_any (x y k n : Int) (w : World) (hx : -2147483648 ≤ x ∧ x ≤ 2147483648) (hy : -2147483648 ≤ y ∧ y ≤ 2147483648) (hk : -2147483648 ≤ k ∧ k ≤ 2147483648) (hn : 1 ≤ n ∧ n ≤ 2147483648) :
    Calls Try.prog 38 #[V1 x y, .int .i64 k, .int .i64 n] w fun e w' => e = .returned (P2 (nearQ (x * k) n) (nearQ (y * k) n)) ∧ Below w.heap.size w w' := by
  obtain ⟨X, hX⟩ : ∃ X, nearQ (x * k) n = X := ⟨_, rfl⟩
  obtain ⟨Y, hY⟩ : ∃ Y, nearQ (y * k) n = Y := ⟨_, rfl⟩
  have bX := near_q x k n hn.1 hx hk
  have bY := near_q y k n hn.1 hy hk
  rw [hX] at bX ⊢
  rw [hY] at bY ⊢
  have FX := Lib.hid (nearV_fit' x k n X hn.1 hX (by omega))
  have FY := Lib.hid (nearV_fit' y k n Y hn.1 hY (by omega))
  have C1 := Lib.hid (fun w => near_any x k n w (by omega) (by omega) (by omega))
  have C2 := Lib.hid (fun w => near_any y k n w (by omega) (by omega) (by omega))
  clear hX hY hx hy hk hn bX bY
  go_enter Try.func38, Try.ntmps38
  go_wp2_with fail
  refine (C1.out _).mono ?_
  rintro e w1 ⟨rfl, h1⟩
  rw [FX.out]
  have z1 := h1.size
  simp at z1
  obtain ⟨c2, c3, c4, f3, f4, hb1⟩ : w1.cell? ⟨w.heap.size, 1, none⟩ = some (.int .i64 y) ∧ w1.cell? ⟨w.heap.size + 1, 0, none⟩ = some (.int .i64 0) ∧ w1.cell? ⟨w.heap.size + 1, 1, none⟩ = some (.int .i64 0) ∧ w1.frozen? ⟨w.heap.size + 1, 0, none⟩ = false ∧ w1.frozen? ⟨w.heap.size + 1, 1, none⟩ = false ∧ Below w.heap.size w w1 :=
    ⟨(h1.cell (p := ⟨w.heap.size, 1, none⟩) (by simp; omega)).trans (by simp), (h1.cell (p := ⟨w.heap.size + 1, 0, none⟩) (by simp)).trans (by simp), (h1.cell (p := ⟨w.heap.size + 1, 1, none⟩) (by simp)).trans (by simp), (h1.frozen (p := ⟨w.heap.size + 1, 0, none⟩) (by simp)).trans (by simp), (h1.frozen (p := ⟨w.heap.size + 1, 1, none⟩) (by simp)).trans (by simp), (((Below.refl _ _).alloc (by simp) _).alloc (by simp) _).trans (h1.mono (by simp; omega))⟩
  clear h1
  go_wp2_with fail
  refine (C2.out _).mono ?_
  rintro e w2 ⟨rfl, h2⟩
  rw [FY.out]
  have z2 := h2.size
  replace c3 := (h2.cell (p := ⟨w.heap.size + 1, 0, none⟩) (by dsimp only; omega)).trans c3
  replace c4 := (h2.cell (p := ⟨w.heap.size + 1, 1, none⟩) (by dsimp only; omega)).trans c4
  replace f3 := (h2.frozen (p := ⟨w.heap.size + 1, 0, none⟩) (by dsimp only; omega)).trans f3
  replace f4 := (h2.frozen (p := ⟨w.heap.size + 1, 1, none⟩) (by dsimp only; omega)).trans f4
  replace hb1 := hb1.trans (h2.mono (by omega))
  clear h2 c2
  go_wp2
  refine bodyPost_ret (by simp [results, Try.results38, go_sem, *] <;> rfl) rfl ⟨?_, ?_⟩
  · rfl
  · exact Below.setCell (Below.setCell hb1 (by simp) _) (by simp) _

theorem vnorm_any (x y r : Int) (w : World) (hx : -1073741824 ≤ x ∧ x ≤ 1073741824) (hy : -1073741824 ≤ y ∧ y ≤ 1073741824) (hr : -2147483648 ≤ r ∧ r ≤ 2147483648) :
    Calls Try.prog 26 #[P2 x y, .int .i64 r] w fun e w' => e = .returned (P2 (normX x y r) (normY x y r)) ∧ Below w.heap.size w w' := by
  have lb := lenN_bd x y hx hy
  obtain ⟨L, hL⟩ : ∃ L, lenN x y = L := ⟨_, rfl⟩
  have LEN := Lib.hid (fun w => plen_any x y w hx hy)
  unfold normX normY
  rw [hL] at lb LEN ⊢
  by_cases h0 : L = 0
  · subst h0
    rw [if_pos rfl, if_pos rfl]
    clear hL hx hy
    go_enter Try.func26, Try.ntmps26
    go_wp2_with fail
    refine (LEN.out _).mono ?_
    rintro e w1 ⟨rfl, h1⟩
    have z1 := h1.size
    simp at z1
    obtain ⟨c1, c2, c3, c4, f3, f4, hb1⟩ : w1.cell? ⟨w.heap.size + 1 + 1, 0, none⟩ = some (.int .i64 x) ∧ w1.cell? ⟨w.heap.size + 1 + 1, 1, none⟩ = some (.int .i64 y) ∧ w1.cell? ⟨w.heap.size + 1, 0, none⟩ = some (.int .i64 0) ∧ w1.cell? ⟨w.heap.size + 1, 1, none⟩ = some (.int .i64 0) ∧ w1.frozen? ⟨w.heap.size + 1, 0, none⟩ = false ∧ w1.frozen? ⟨w.heap.size + 1, 1, none⟩ = false ∧ Below w.heap.size w w1 :=
      ⟨(h1.cell (p := ⟨w.heap.size + 1 + 1, 0, none⟩) (by first | (simp; done) | (simp; omega))).trans (by simp [go_sem]), (h1.cell (p := ⟨w.heap.size + 1 + 1, 1, none⟩) (by first | (simp; done) | (simp; omega))).trans (by simp [go_sem]), (h1.cell (p := ⟨w.heap.size + 1, 0, none⟩) (by first | (simp; done) | (simp; omega))).trans (by simp [go_sem]), (h1.cell (p := ⟨w.heap.size + 1, 1, none⟩) (by first | (simp; done) | (simp; omega))).trans (by simp [go_sem]), (h1.frozen (p := ⟨w.heap.size + 1, 0, none⟩) (by first | (simp; done) | (simp; omega))).trans (by simp [go_sem]), (h1.frozen (p := ⟨w.heap.size + 1, 1, none⟩) (by first | (simp; done) | (simp; omega))).trans (by simp [go_sem]), Below.trans (show Below w.heap.size w _ from (by repeat (first | exact Below.refl _ _ | refine below_dN ?_ _ | refine Below.setCell ?_ (by first | (simp; done) | (simp; omega)) _ | refine Below.alloc ?_ (by first | (simp; done) | (simp; omega)) _))) (h1.mono (by first | (simp; done) | (simp; omega)))⟩
    clear h1
    go_wp2
    refine bodyPost_ret (by simp [results, Try.results26, go_sem, *] <;> rfl) rfl ⟨?_, ?_⟩
    · rfl
    · exact Below.setCell (Below.setCell hb1 (by first | (simp; done) | (simp; omega)) _) (by first | (simp; done) | (simp; omega)) _
  · rw [if_neg h0, if_neg h0]
    have SH := Lib.hid (fun w => pshare_any x y r (L : Nat) w (by omega) (by omega) hr (by omega))
    have q0 : ((L : Int) == 0) = false := by simp; omega
    clear hL hx hy hr
    generalize nearQ (x * r) (L : Nat) = X at *
    generalize nearQ (y * r) (L : Nat) = Y at *
    go_enter Try.func26, Try.ntmps26
    go_wp2_with fail
    refine (LEN.out _).mono ?_
    rintro e w1 ⟨rfl, h1⟩
    have z1 := h1.size
    simp at z1
    obtain ⟨c1, c2, c3, c4, f3, f4, hb1⟩ : w1.cell? ⟨w.heap.size + 1 + 1, 0, none⟩ = some (.int .i64 x) ∧ w1.cell? ⟨w.heap.size + 1 + 1, 1, none⟩ = some (.int .i64 y) ∧ w1.cell? ⟨w.heap.size + 1, 0, none⟩ = some (.int .i64 0) ∧ w1.cell? ⟨w.heap.size + 1, 1, none⟩ = some (.int .i64 0) ∧ w1.frozen? ⟨w.heap.size + 1, 0, none⟩ = false ∧ w1.frozen? ⟨w.heap.size + 1, 1, none⟩ = false ∧ Below w.heap.size w w1 :=
      ⟨(h1.cell (p := ⟨w.heap.size + 1 + 1, 0, none⟩) (by first | (simp; done) | (simp; omega))).trans (by simp [go_sem]), (h1.cell (p := ⟨w.heap.size + 1 + 1, 1, none⟩) (by first | (simp; done) | (simp; omega))).trans (by simp [go_sem]), (h1.cell (p := ⟨w.heap.size + 1, 0, none⟩) (by first | (simp; done) | (simp; omega))).trans (by simp [go_sem]), (h1.cell (p := ⟨w.heap.size + 1, 1, none⟩) (by first | (simp; done) | (simp; omega))).trans (by simp [go_sem]), (h1.frozen (p := ⟨w.heap.size + 1, 0, none⟩) (by first | (simp; done) | (simp; omega))).trans (by simp [go_sem]), (h1.frozen (p := ⟨w.heap.size + 1, 1, none⟩) (by first | (simp; done) | (simp; omega))).trans (by simp [go_sem]), Below.trans (show Below w.heap.size w _ from (by repeat (first | exact Below.refl _ _ | refine below_dN ?_ _ | refine Below.setCell ?_ (by first | (simp; done) | (simp; omega)) _ | refine Below.alloc ?_ (by first | (simp; done) | (simp; omega)) _))) (h1.mono (by first | (simp; done) | (simp; omega)))⟩
    clear h1
    go_wp2_with fail
    refine (SH.out _).mono ?_
    rintro e w2 ⟨rfl, h2⟩
    have z2 := h2.size
    replace c3 := (h2.cell (p := ⟨w.heap.size + 1, 0, none⟩) (by dsimp only; omega)).trans c3
    replace c4 := (h2.cell (p := ⟨w.heap.size + 1, 1, none⟩) (by dsimp only; omega)).trans c4
    replace f3 := (h2.frozen (p := ⟨w.heap.size + 1, 0, none⟩) (by dsimp only; omega)).trans f3
    replace f4 := (h2.frozen (p := ⟨w.heap.size + 1, 1, none⟩) (by dsimp only; omega)).trans f4
    replace hb1 := hb1.trans (h2.mono (by omega))
    clear h2 c1 c2
    go_wp2
    refine bodyPost_ret (by simp [results, Try.results26, go_sem, *] <;> rfl) rfl ⟨?_, ?_⟩
    · rfl
    · exact Below.setCell (Below.setCell hb1 (by first | (simp; done) | (simp; omega)) _) (by first | (simp; done) | (simp; omega)) _

theorem valong_any (x y u v k n : Int) (w : World) (hx : -1073741824 ≤ x ∧ x ≤ 1073741824) (hy : -1073741824 ≤ y ∧ y ≤ 1073741824) (hu : -1073741824 ≤ u ∧ u ≤ 1073741824) (hv : -1073741824 ≤ v ∧ v ≤ 1073741824) (hk : -2147483648 ≤ k ∧ k ≤ 2147483648) (hn : -2147483648 ≤ n ∧ n ≤ 2147483648) :
    Calls Try.prog 28 #[P2 x y, P2 u v, .int .i64 k, .int .i64 n] w fun e w' => e = .returned (P2 (alongQ x u k n) (alongQ y v k n)) ∧ Below w.heap.size w w' := by
  unfold alongQ
  by_cases h0 : n < 1
  · have q0 : decide (n < 1) = true := by simpa using h0
    rw [if_pos h0, if_pos h0]
    clear h0
    go_enter Try.func28, Try.ntmps28
    go_wp2
    refine bodyPost_ret (by simp [results, Try.results28, go_sem] <;> rfl) rfl ⟨?_, ?_⟩
    · rfl
    · exact (by repeat (first | exact Below.refl _ _ | refine below_dN ?_ _ | refine Below.setCell ?_ (by first | (simp; done) | (simp; omega)) _ | refine Below.alloc ?_ (by first | (simp; done) | (simp; omega)) _))
  · have q0 : decide (n < 1) = false := by simpa using h0
    rw [if_neg h0, if_neg h0]
    have SUB := Lib.hid (fun w => vsub_any u v x y w (by omega) (by omega) (by omega) (by omega))
    obtain ⟨d, hd⟩ : ∃ d, u - x = d := ⟨_, rfl⟩
    obtain ⟨e, he⟩ : ∃ e, v - y = e := ⟨_, rfl⟩
    rw [hd, he] at SUB ⊢
    have SH := Lib.hid (fun w => pshare_any d e k n w (by omega) (by omega) hk (by omega))
    have bX := near_q d k n (by omega) (by omega) hk
    have bY := near_q e k n (by omega) (by omega) hk
    generalize nearQ (d * k) n = X at *
    generalize nearQ (e * k) n = Y at *
    have ADD := Lib.hid (fun w => padd_wide x y X Y w (by omega) (by omega) (by omega) (by omega))
    clear hx hy hu hv hk hn bX bY hd he h0
    go_enter Try.func28, Try.ntmps28
    go_wp2_with fail
    refine (SUB.out _).mono ?_
    rintro e0 w1 ⟨rfl, h1⟩
    have z1 := h1.size
    simp at z1
    obtain ⟨c1, c2, c3, c4, f3, f4, hb1⟩ : w1.cell? ⟨w.heap.size, 0, none⟩ = some (.int .i64 x) ∧ w1.cell? ⟨w.heap.size, 1, none⟩ = some (.int .i64 y) ∧ w1.cell? ⟨w.heap.size + 1 + 1, 0, none⟩ = some (.int .i64 0) ∧ w1.cell? ⟨w.heap.size + 1 + 1, 1, none⟩ = some (.int .i64 0) ∧ w1.frozen? ⟨w.heap.size + 1 + 1, 0, none⟩ = false ∧ w1.frozen? ⟨w.heap.size + 1 + 1, 1, none⟩ = false ∧ Below w.heap.size w w1 :=
      ⟨(h1.cell (p := ⟨w.heap.size, 0, none⟩) (by first | (simp; done) | (simp; omega))).trans (by simp [go_sem]), (h1.cell (p := ⟨w.heap.size, 1, none⟩) (by first | (simp; done) | (simp; omega))).trans (by simp [go_sem]), (h1.cell (p := ⟨w.heap.size + 1 + 1, 0, none⟩) (by first | (simp; done) | (simp; omega))).trans (by simp [go_sem]), (h1.cell (p := ⟨w.heap.size + 1 + 1, 1, none⟩) (by first | (simp; done) | (simp; omega))).trans (by simp [go_sem]), (h1.frozen (p := ⟨w.heap.size + 1 + 1, 0, none⟩) (by first | (simp; done) | (simp; omega))).trans (by simp [go_sem]), (h1.frozen (p := ⟨w.heap.size + 1 + 1, 1, none⟩) (by first | (simp; done) | (simp; omega))).trans (by simp [go_sem]), Below.trans (show Below w.heap.size w _ from (by repeat (first | exact Below.refl _ _ | refine below_dN ?_ _ | refine Below.setCell ?_ (by first | (simp; done) | (simp; omega)) _ | refine Below.alloc ?_ (by first | (simp; done) | (simp; omega)) _))) (h1.mono (by first | (simp; done) | (simp; omega)))⟩
    clear h1
    go_wp2_with fail
    refine wp_gen (fun w' => w'.cell? ⟨w.heap.size, 0, none⟩ = some (.int .i64 (x)) ∧ w'.cell? ⟨w.heap.size, 1, none⟩ = some (.int .i64 (y)) ∧ w'.cell? ⟨w1.heap.size, 0, none⟩ = some (.int .i64 (d)) ∧ w'.cell? ⟨w1.heap.size, 1, none⟩ = some (.int .i64 (e)) ∧ OwnN (w.heap.size + 1 + 1) 2 w' ∧ w1.heap.size + 1 ≤ w'.heap.size ∧ Below w.heap.size w w') ⟨(World.cell?_alloc_old _ _ _ (by dsimp only; omega)).trans c1, (World.cell?_alloc_old _ _ _ (by dsimp only; omega)).trans c2, by simp [go_sem], by simp [go_sem], ?own, ?siz, ?bel⟩ ?_
    case own => exact OwnN.of_two ⟨_, (World.cell?_alloc_old _ _ _ (by dsimp only; omega)).trans c3⟩ ((World.frozen?_alloc_old _ _ _ (by dsimp only; omega)).trans f3) ⟨_, (World.cell?_alloc_old _ _ _ (by dsimp only; omega)).trans c4⟩ ((World.frozen?_alloc_old _ _ _ (by dsimp only; omega)).trans f4)
    case siz => simp
    case bel => exact hb1.alloc (by omega) _
    rintro w0 ⟨c1, c2, c3, c4, hown, hs, hb0⟩
    go_region_held3 (fun w' => w'.cell? ⟨w.heap.size, 0, none⟩ = some (.int .i64 (x)) ∧ w'.cell? ⟨w.heap.size, 1, none⟩ = some (.int .i64 (y)) ∧ w'.cell? ⟨w1.heap.size, 0, none⟩ = some (.int .i64 (d)) ∧ w'.cell? ⟨w1.heap.size, 1, none⟩ = some (.int .i64 (e)) ∧ OwnN (w.heap.size + 1 + 1) 2 w' ∧ w0.heap.size ≤ w'.heap.size ∧ Below w.heap.size w w') ((first | assumption | exact ⟨by simp [*], by simp [*], by simp [*], by simp [*], hown, Nat.le_refl _, hb0.drew⟩ | exact callR4 ‹_› hb (by omega) (by omega) (by (try dsimp only); omega) (by (try dsimp only); omega) (by (try dsimp only); omega) (by (try dsimp only); omega) | exact (setR4 (setR4 ‹_› _ _ (by omega) (by (try dsimp only); omega) (by (try dsimp only); omega) (by (try dsimp only); omega) (by (try dsimp only); omega)) _ _ (by omega) (by (try dsimp only); omega) (by (try dsimp only); omega) (by (try dsimp only); omega) (by (try dsimp only); omega)))) ((first | (go_at_call 38; refine (SH.out _).mono ?_; rintro e w' ⟨rfl, hb⟩) | (go_at_call 12; refine (ADD.out _).mono ?_; rintro e w' ⟨rfl, hb⟩; have hS := callR4 ‹_› hb (by omega) (by omega) (by (try dsimp only); omega) (by (try dsimp only); omega) (by (try dsimp only); omega) (by (try dsimp only); omega); obtain ⟨⟨x0, hx0⟩, f0, ⟨x1, hx1⟩, f1⟩ := OwnN.two hS.2.2.2.2.1; clear hS)))
    go_wp2
    refine bodyPost_ret (by simp [results, Try.results28, go_sem, hx0, hx1] <;> rfl) rfl ⟨?_, ?_⟩
    · rfl
    · exact belR4 ‹_›
end Go.Proofs.Ytmdhlkdeadfgdaa
