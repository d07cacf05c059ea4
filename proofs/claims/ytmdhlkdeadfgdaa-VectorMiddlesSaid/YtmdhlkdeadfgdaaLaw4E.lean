/- The walk of VectorMiddles. -/
import Derived.Test.YtmdhlkdeadfgdaaLaw4S
import Derived.Test.YtmdhlkdeadfgdaaAlong
namespace Go.Proofs.Ytmdhlkdeadfgdaa
open Go.RowKit
set_option linter.unusedVariables false
set_option linter.unusedSimpArgs false
set_option maxHeartbeats 4000000
set_option maxRecDepth 100000

theorem half_t (d : Int) : ∃ c, d.tdiv 2 = c ∧ ((0 ≤ d ∧ c = d / 2) ∨ (d < 0 ∧ c = -((-d) / 2))) := by
  refine ⟨_, rfl, ?_⟩
  by_cases h : 0 ≤ d
  · exact .inl ⟨h, Int.tdiv_eq_ediv_of_nonneg h⟩
  · refine .inr ⟨by omega, ?_⟩
    have e : d = -(-d) := by omega
    conv => lhs; rw [e]
    rw [Int.neg_tdiv, Int.tdiv_eq_ediv_of_nonneg (by omega)]

theorem mid_a (x y u v : Int) (k n : Nat) (w : World) (bk : k ≤ 65535) (bn : n ≤ 65535) (na : nearB x y = false) :
    Calls Try.prog 7 #[P2 x y, P2 u v, .int .u16 k, .int .u16 n] w fun e w' => e = .returned (.bool true) ∧ Below w.heap.size w w' := by
  have QR0 := fun w => r4near_any x y w
  simp only [na] at QR0
  have QR := Lib.hid QR0
  clear QR0
  go_enter Try.func7, Try.ntmps7
  go_upto_region 1 with fail
  refine any_gen (fun w' => w'.cell? ⟨w.heap.size, 0, none⟩ = some (.int .i64 (x)) ∧ w'.cell? ⟨w.heap.size, 1, none⟩ = some (.int .i64 (y)) ∧ w'.cell? ⟨w.heap.size + 1, 0, none⟩ = some (.int .i64 (u)) ∧ w'.cell? ⟨w.heap.size + 1, 1, none⟩ = some (.int .i64 (v)) ∧ w.heap.size + 1 + 1 ≤ w'.heap.size ∧ Below w.heap.size w w') ⟨by simp [go_sem], by simp [go_sem], by simp [go_sem], by simp [go_sem], ?siz, ?bel⟩ ?_
  case siz => simp
  case bel => repeat (first | exact Below.refl _ _ | refine below_dN ?_ _ | refine Below.setCell ?_ (by simp; try omega) _ | refine Below.alloc ?_ (by simp; try omega) _)
  rintro w0 ⟨c1, c2, c3, c4, hs, hb0⟩
  go_wp2_with fail
  refine (QR.out _).mono ?_
  rintro e w1 ⟨rfl, h1⟩
  obtain ⟨d1, d2, d3, d4, hsz, hb1⟩ := next4 (keep4 ⟨c1, c2, c3, c4, Below.refl _ _⟩ h1 (by dsimp only; omega) (by dsimp only; omega) (by dsimp only; omega) (by dsimp only; omega)) (by omega) hb0
  clear c1 c2 c3 c4 hb0 h1
  have c1 := d1
  clear d1
  have c2 := d2
  clear d2
  have c3 := d3
  clear d3
  have c4 := d4
  clear d4
  have hb0 := hb1
  clear hb1
  replace hs := Nat.le_trans hs hsz
  clear hsz
  go_wp2_with fail
  refine (shown_any _).mono ?_
  rintro e w2 ⟨rfl, h2⟩
  obtain ⟨d1, d2, d3, d4, hsz, hb1⟩ := next4 (keep4 ⟨c1, c2, c3, c4, Below.refl _ _⟩ h2 (by dsimp only; omega) (by dsimp only; omega) (by dsimp only; omega) (by dsimp only; omega)) (by omega) hb0
  clear c1 c2 c3 c4 hb0 h2
  have c1 := d1
  clear d1
  have c2 := d2
  clear d2
  have c3 := d3
  clear d3
  have c4 := d4
  clear d4
  have hb0 := hb1
  clear hb1
  replace hs := Nat.le_trans hs hsz
  clear hsz
  go_wp2
  go_ret
  exact ⟨rfl, hb0⟩

theorem mid_b (x y u v : Int) (k n : Nat) (w : World) (bk : k ≤ 65535) (bn : n ≤ 65535) (na : nearB x y = true) (nb : nearB u v = false) :
    Calls Try.prog 7 #[P2 x y, P2 u v, .int .u16 k, .int .u16 n] w fun e w' => e = .returned (.bool true) ∧ Below w.heap.size w w' := by
  have QR0 := fun w => r4near_any x y w
  simp only [na] at QR0
  have QR := Lib.hid QR0
  clear QR0
  have QB0 := fun w => r4near_any u v w
  simp only [nb] at QB0
  have QB := Lib.hid QB0
  clear QB0
  go_enter Try.func7, Try.ntmps7
  go_upto_region 1 with fail
  refine any_gen (fun w' => w'.cell? ⟨w.heap.size, 0, none⟩ = some (.int .i64 (x)) ∧ w'.cell? ⟨w.heap.size, 1, none⟩ = some (.int .i64 (y)) ∧ w'.cell? ⟨w.heap.size + 1, 0, none⟩ = some (.int .i64 (u)) ∧ w'.cell? ⟨w.heap.size + 1, 1, none⟩ = some (.int .i64 (v)) ∧ w.heap.size + 1 + 1 ≤ w'.heap.size ∧ Below w.heap.size w w') ⟨by simp [go_sem], by simp [go_sem], by simp [go_sem], by simp [go_sem], ?siz, ?bel⟩ ?_
  case siz => simp
  case bel => repeat (first | exact Below.refl _ _ | refine below_dN ?_ _ | refine Below.setCell ?_ (by simp; try omega) _ | refine Below.alloc ?_ (by simp; try omega) _)
  rintro w0 ⟨c1, c2, c3, c4, hs, hb0⟩
  go_wp2_with fail
  refine (QR.out _).mono ?_
  rintro e w1 ⟨rfl, h1⟩
  obtain ⟨d1, d2, d3, d4, hsz, hb1⟩ := next4 (keep4 ⟨c1, c2, c3, c4, Below.refl _ _⟩ h1 (by dsimp only; omega) (by dsimp only; omega) (by dsimp only; omega) (by dsimp only; omega)) (by omega) hb0
  clear c1 c2 c3 c4 hb0 h1
  have c1 := d1
  clear d1
  have c2 := d2
  clear d2
  have c3 := d3
  clear d3
  have c4 := d4
  clear d4
  have hb0 := hb1
  clear hb1
  replace hs := Nat.le_trans hs hsz
  clear hsz
  go_wp2_with fail
  refine (QB.out _).mono ?_
  rintro e w2 ⟨rfl, h2⟩
  obtain ⟨d1, d2, d3, d4, hsz, hb1⟩ := next4 (keep4 ⟨c1, c2, c3, c4, Below.refl _ _⟩ h2 (by dsimp only; omega) (by dsimp only; omega) (by dsimp only; omega) (by dsimp only; omega)) (by omega) hb0
  clear c1 c2 c3 c4 hb0 h2
  have c1 := d1
  clear d1
  have c2 := d2
  clear d2
  have c3 := d3
  clear d3
  have c4 := d4
  clear d4
  have hb0 := hb1
  clear hb1
  replace hs := Nat.le_trans hs hsz
  clear hsz
  go_wp2_with fail
  refine (shown_any _).mono ?_
  rintro e w3 ⟨rfl, h3⟩
  obtain ⟨d1, d2, d3, d4, hsz, hb1⟩ := next4 (keep4 ⟨c1, c2, c3, c4, Below.refl _ _⟩ h3 (by dsimp only; omega) (by dsimp only; omega) (by dsimp only; omega) (by dsimp only; omega)) (by omega) hb0
  clear c1 c2 c3 c4 hb0 h3
  have c1 := d1
  clear d1
  have c2 := d2
  clear d2
  have c3 := d3
  clear d3
  have c4 := d4
  clear d4
  have hb0 := hb1
  clear hb1
  replace hs := Nat.le_trans hs hsz
  clear hsz
  go_wp2
  go_ret
  exact ⟨rfl, hb0⟩

theorem mid_c (x y u v : Int) (k n : Nat) (w : World) (bk : k ≤ 65535) (bn : n ≤ 65535) (na : nearB x y = true) (nb : nearB u v = true) (hn : n = 0) :
    Calls Try.prog 7 #[P2 x y, P2 u v, .int .u16 k, .int .u16 n] w fun e w' => e = .returned (.bool true) ∧ Below w.heap.size w w' := by
  have QR0 := fun w => r4near_any x y w
  simp only [na] at QR0
  have QR := Lib.hid QR0
  clear QR0
  have QB0 := fun w => r4near_any u v w
  simp only [nb] at QB0
  have QB := Lib.hid QB0
  clear QB0
  have q0 : ((n : Int) == 0) = true := by simp; omega
  have q0' : (n == 0) = true := by simp; omega
  clear hn
  go_enter Try.func7, Try.ntmps7
  go_upto_region 1 with fail
  refine any_gen (fun w' => w'.cell? ⟨w.heap.size, 0, none⟩ = some (.int .i64 (x)) ∧ w'.cell? ⟨w.heap.size, 1, none⟩ = some (.int .i64 (y)) ∧ w'.cell? ⟨w.heap.size + 1, 0, none⟩ = some (.int .i64 (u)) ∧ w'.cell? ⟨w.heap.size + 1, 1, none⟩ = some (.int .i64 (v)) ∧ w.heap.size + 1 + 1 ≤ w'.heap.size ∧ Below w.heap.size w w') ⟨by simp [go_sem], by simp [go_sem], by simp [go_sem], by simp [go_sem], ?siz, ?bel⟩ ?_
  case siz => simp
  case bel => repeat (first | exact Below.refl _ _ | refine below_dN ?_ _ | refine Below.setCell ?_ (by simp; try omega) _ | refine Below.alloc ?_ (by simp; try omega) _)
  rintro w0 ⟨c1, c2, c3, c4, hs, hb0⟩
  go_wp2_with fail
  refine (QR.out _).mono ?_
  rintro e w1 ⟨rfl, h1⟩
  obtain ⟨d1, d2, d3, d4, hsz, hb1⟩ := next4 (keep4 ⟨c1, c2, c3, c4, Below.refl _ _⟩ h1 (by dsimp only; omega) (by dsimp only; omega) (by dsimp only; omega) (by dsimp only; omega)) (by omega) hb0
  clear c1 c2 c3 c4 hb0 h1
  have c1 := d1
  clear d1
  have c2 := d2
  clear d2
  have c3 := d3
  clear d3
  have c4 := d4
  clear d4
  have hb0 := hb1
  clear hb1
  replace hs := Nat.le_trans hs hsz
  clear hsz
  go_wp2_with fail
  refine (QB.out _).mono ?_
  rintro e w2 ⟨rfl, h2⟩
  obtain ⟨d1, d2, d3, d4, hsz, hb1⟩ := next4 (keep4 ⟨c1, c2, c3, c4, Below.refl _ _⟩ h2 (by dsimp only; omega) (by dsimp only; omega) (by dsimp only; omega) (by dsimp only; omega)) (by omega) hb0
  clear c1 c2 c3 c4 hb0 h2
  have c1 := d1
  clear d1
  have c2 := d2
  clear d2
  have c3 := d3
  clear d3
  have c4 := d4
  clear d4
  have hb0 := hb1
  clear hb1
  replace hs := Nat.le_trans hs hsz
  clear hsz
  go_wp2_with fail
  refine (shown_any _).mono ?_
  rintro e w3 ⟨rfl, h3⟩
  obtain ⟨d1, d2, d3, d4, hsz, hb1⟩ := next4 (keep4 ⟨c1, c2, c3, c4, Below.refl _ _⟩ h3 (by dsimp only; omega) (by dsimp only; omega) (by dsimp only; omega) (by dsimp only; omega)) (by omega) hb0
  clear c1 c2 c3 c4 hb0 h3
  have c1 := d1
  clear d1
  have c2 := d2
  clear d2
  have c3 := d3
  clear d3
  have c4 := d4
  clear d4
  have hb0 := hb1
  clear hb1
  replace hs := Nat.le_trans hs hsz
  clear hsz
  go_wp2
  go_ret
  exact ⟨rfl, hb0⟩

theorem mid_d (x y u v : Int) (k n : Nat) (w : World) (bk : k ≤ 65535) (bn : n ≤ 65535) (na : nearB x y = true) (nb : nearB u v = true) (hn : n ≠ 0) :
    Calls Try.prog 7 #[P2 x y, P2 u v, .int .u16 k, .int .u16 n] w fun e w' => e = .returned (.bool true) ∧ Below w.heap.size w w' := by
  obtain ⟨hx, hy⟩ := nearB_iff.1 na
  obtain ⟨hu, hv⟩ := nearB_iff.1 nb
  have QR0 := fun w => r4near_any x y w
  simp only [na] at QR0
  have QR := Lib.hid QR0
  clear QR0
  have QB0 := fun w => r4near_any u v w
  simp only [nb] at QB0
  have QB := Lib.hid QB0
  clear QB0
  have q0 : ((n : Int) == 0) = false := by simp; omega
  have q0' : (n == 0) = false := by simp; omega
  have z1 : ((n : Int) + 1 == 0) = false := by simp; omega
  have z2 : ¬ (n : Int) + 1 = 0 := by omega
  obtain ⟨i, hi⟩ : ∃ i, k % (n + 1) = i := ⟨_, rfl⟩
  have i1 : i ≤ n := by have := Nat.mod_lt k (show 0 < n + 1 by omega); omega
  have e1 : (k : Int) % ((n : Int) + 1) = (i : Int) := by rw [← hi, Int.natCast_emod]; rfl
  have e1' : (k : Int).tmod ((n : Int) + 1) = (i : Int) := by rw [Int.tmod_eq_emod_of_nonneg (by omega), e1]
  have e0 : IntKind.i64.wrap (k : Int) = (k : Int) := IntWalk.i64_in _ (by omega)
  have e2 : IntKind.i64.wrap ((n : Int) + 1) = (n : Int) + 1 := IntWalk.i64_in _ (by omega)
  obtain ⟨j, hj⟩ : ∃ j, n - i = j := ⟨_, rfl⟩
  have e3 : (n : Int) - (i : Int) = (j : Int) := by omega
  have e3' : IntKind.i64.wrap ((n : Int) - (i : Int)) = (j : Int) := by rw [e3]; exact IntWalk.i64_in _ (by omega)
  have e4 : IntKind.i64.wrap (j : Int) = (j : Int) := IntWalk.i64_in _ (by omega)
  obtain ⟨DX, hDX⟩ : ∃ DX, u - x = DX := ⟨_, rfl⟩
  obtain ⟨DY, hDY⟩ : ∃ DY, v - y = DY := ⟨_, rfl⟩
  obtain ⟨CX, hCX, dCX⟩ := half_t DX
  obtain ⟨CY, hCY, dCY⟩ := half_t DY
  have gx : -2147483648 ≤ x ∧ x ≤ 2147483648 := by omega
  have gy : -2147483648 ≤ y ∧ y ≤ 2147483648 := by omega
  have gu : -2147483648 ≤ u ∧ u ≤ 2147483648 := by omega
  have gv : -2147483648 ≤ v ∧ v ≤ 2147483648 := by omega
  have cx : -1073741824 ≤ CX ∧ CX ≤ 1073741824 := by omega
  have cy : -1073741824 ≤ CY ∧ CY ≤ 1073741824 := by omega
  have ex : -1073741824 ≤ x + CX ∧ x + CX ≤ 1073741824 := by omega
  have ey : -1073741824 ≤ y + CY ∧ y + CY ≤ 1073741824 := by omega
  have s1 := along_in 0 CX i n (by omega) (by omega)
  have s2 := along_in 0 CY i n (by omega) (by omega)
  have B1 := along_back x u i n (by omega)
  have B2 := along_back y v i n (by omega)
  rw [e3] at B1 B2
  have S1 := along_shift x CX i n (by omega)
  have S2 := along_shift y CY i n (by omega)
  have cx2 : -2147483648 ≤ CX ∧ CX ≤ 2147483648 := by omega
  have cy2 : -2147483648 ≤ CY ∧ CY ≤ 2147483648 := by omega
  have e5 : wrap64 CX = CX := by unfold wrap64; omega
  have e6 : wrap64 CY = CY := by unfold wrap64; omega
  have e7 : IntKind.i64.wrap CX = CX := IntWalk.i64_in _ (by omega)
  have e8 : IntKind.i64.wrap CY = CY := IntWalk.i64_in _ (by omega)
  have AL0 := fun w => valong_any x y u v i n w hx hy hu hv (by omega) (by omega)
  have AL := Lib.hid AL0
  clear AL0
  have AB0 := fun w => valong_any u v x y j n w hu hv hx hy (by omega) (by omega)
  simp only [B1, B2] at AB0
  have AB := Lib.hid AB0
  clear AB0
  have SUB0 := fun w => vsub_any u v x y w gu gv gx gy
  simp only [hDX, hDY] at SUB0
  have SUB := Lib.hid SUB0
  clear SUB0
  have AL20 := fun w => valong_any 0 0 CX CY i n w (by omega) (by omega) cx cy (by omega) (by omega)
  have AL2 := Lib.hid AL20
  clear AL20
  have ADD10 := fun w => vadd_any x y CX CY w gx gy cx2 cy2
  have ADD1 := Lib.hid ADD10
  clear ADD10
  have AL30 := fun w => valong_any x y (x + CX) (y + CY) i n w hx hy ex ey (by omega) (by omega)
  simp only [S1, S2] at AL30
  have AL3 := Lib.hid AL30
  clear AL30
  obtain ⟨GX, hGX⟩ : ∃ GX, alongQ x u i n = GX := ⟨_, rfl⟩
  obtain ⟨GY, hGY⟩ : ∃ GY, alongQ y v i n = GY := ⟨_, rfl⟩
  obtain ⟨SX, hSX⟩ : ∃ SX, alongQ 0 CX i n = SX := ⟨_, rfl⟩
  obtain ⟨SY, hSY⟩ : ∃ SY, alongQ 0 CY i n = SY := ⟨_, rfl⟩
  simp only [hGX, hGY] at AL AB
  simp only [hSX, hSY] at AL2 AL3
  rw [hSX] at s1
  rw [hSY] at s2
  have ADD20 := fun w => vadd_any x y SX SY w gx gy (by omega) (by omega)
  have ADD2 := Lib.hid ADD20
  clear ADD20
  obtain ⟨EX, hEX⟩ : ∃ EX, x + CX = EX := ⟨_, rfl⟩
  obtain ⟨EY, hEY⟩ : ∃ EY, y + CY = EY := ⟨_, rfl⟩
  obtain ⟨FX, hFX⟩ : ∃ FX, x + SX = FX := ⟨_, rfl⟩
  obtain ⟨FY, hFY⟩ : ∃ FY, y + SY = FY := ⟨_, rfl⟩
  simp only [hEX, hEY] at ADD1 AL3
  simp only [hFX, hFY] at ADD2 AL3
  have t1 : (GX == GX) = true := by simp
  have t2 : (GY == GY) = true := by simp
  have t3 : (FX == FX) = true := by simp
  have t4 : (FY == FY) = true := by simp
  clear hx hy hu hv hi hj B1 B2 S1 S2 s1 s2 hDX hDY dCX dCY gx gy gu gv cx cy cx2 cy2 ex ey hGX hGY hSX hSY hEX hEY hFX hFY na nb hn
  go_enter Try.func7, Try.ntmps7
  go_upto_region 1 with fail
  refine any_gen (fun w' => w'.cell? ⟨w.heap.size, 0, none⟩ = some (.int .i64 (x)) ∧ w'.cell? ⟨w.heap.size, 1, none⟩ = some (.int .i64 (y)) ∧ w'.cell? ⟨w.heap.size + 1, 0, none⟩ = some (.int .i64 (u)) ∧ w'.cell? ⟨w.heap.size + 1, 1, none⟩ = some (.int .i64 (v)) ∧ w.heap.size + 1 + 1 ≤ w'.heap.size ∧ Below w.heap.size w w') ⟨by simp [go_sem], by simp [go_sem], by simp [go_sem], by simp [go_sem], ?siz, ?bel⟩ ?_
  case siz => simp
  case bel => repeat (first | exact Below.refl _ _ | refine below_dN ?_ _ | refine Below.setCell ?_ (by simp; try omega) _ | refine Below.alloc ?_ (by simp; try omega) _)
  rintro w0 ⟨c1, c2, c3, c4, hs, hb0⟩
  go_wp2_with fail
  refine (QR.out _).mono ?_
  rintro e w1 ⟨rfl, h1⟩
  obtain ⟨d1, d2, d3, d4, hsz, hb1⟩ := next4 (keep4 ⟨c1, c2, c3, c4, Below.refl _ _⟩ h1 (by dsimp only; omega) (by dsimp only; omega) (by dsimp only; omega) (by dsimp only; omega)) (by omega) hb0
  clear c1 c2 c3 c4 hb0 h1
  have c1 := d1
  clear d1
  have c2 := d2
  clear d2
  have c3 := d3
  clear d3
  have c4 := d4
  clear d4
  have hb0 := hb1
  clear hb1
  replace hs := Nat.le_trans hs hsz
  clear hsz
  go_wp2_with fail
  refine (QB.out _).mono ?_
  rintro e w2 ⟨rfl, h2⟩
  obtain ⟨d1, d2, d3, d4, hsz, hb1⟩ := next4 (keep4 ⟨c1, c2, c3, c4, Below.refl _ _⟩ h2 (by dsimp only; omega) (by dsimp only; omega) (by dsimp only; omega) (by dsimp only; omega)) (by omega) hb0
  clear c1 c2 c3 c4 hb0 h2
  have c1 := d1
  clear d1
  have c2 := d2
  clear d2
  have c3 := d3
  clear d3
  have c4 := d4
  clear d4
  have hb0 := hb1
  clear hb1
  replace hs := Nat.le_trans hs hsz
  clear hsz
  go_wp2_with fail
  refine (shown_any _).mono ?_
  rintro e w3 ⟨rfl, h3⟩
  obtain ⟨d1, d2, d3, d4, hsz, hb1⟩ := next4 (keep4 ⟨c1, c2, c3, c4, Below.refl _ _⟩ h3 (by dsimp only; omega) (by dsimp only; omega) (by dsimp only; omega) (by dsimp only; omega)) (by omega) hb0
  clear c1 c2 c3 c4 hb0 h3
  have c1 := d1
  clear d1
  have c2 := d2
  clear d2
  have c3 := d3
  clear d3
  have c4 := d4
  clear d4
  have hb0 := hb1
  clear hb1
  replace hs := Nat.le_trans hs hsz
  clear hsz
  go_wp2_with fail
  refine (AL.out _).mono ?_
  rintro e w4 ⟨rfl, h4⟩
  obtain ⟨d1, d2, d3, d4, hsz, hb1⟩ := next4 (keep4 ⟨c1, c2, c3, c4, Below.refl _ _⟩ h4 (by dsimp only; omega) (by dsimp only; omega) (by dsimp only; omega) (by dsimp only; omega)) (by omega) hb0
  clear c1 c2 c3 c4 hb0 h4
  have c1 := d1
  clear d1
  have c2 := d2
  clear d2
  have c3 := d3
  clear d3
  have c4 := d4
  clear d4
  have hb0 := hb1
  clear hb1
  replace hs := Nat.le_trans hs hsz
  clear hsz
  go_upto_region 6 with fail
  refine any_gen (fun z => z.cell? ⟨w.heap.size, 0, none⟩ = some (.int .i64 (x)) ∧ z.cell? ⟨w.heap.size, 1, none⟩ = some (.int .i64 (y)) ∧ z.cell? ⟨w.heap.size + 1, 0, none⟩ = some (.int .i64 (u)) ∧ z.cell? ⟨w.heap.size + 1, 1, none⟩ = some (.int .i64 (v)) ∧ z.cell? ⟨w4.heap.size, 0, none⟩ = some (.int .i64 (GX)) ∧ z.cell? ⟨w4.heap.size, 1, none⟩ = some (.int .i64 (GY)) ∧ w4.heap.size + 1 ≤ z.heap.size ∧ Below w.heap.size w z) ⟨(World.cell?_alloc_old _ _ _ (by dsimp only; omega)).trans c1, (World.cell?_alloc_old _ _ _ (by dsimp only; omega)).trans c2, (World.cell?_alloc_old _ _ _ (by dsimp only; omega)).trans c3, (World.cell?_alloc_old _ _ _ (by dsimp only; omega)).trans c4, by simp, by simp, by simp, hb0.alloc (by first | omega | exact hb0.size) _⟩ ?_
  clear c1 c2 c3 c4 hb0
  rintro w5 ⟨c1, c2, c3, c4, c5, c6, hsz, hb0⟩
  replace hs := Nat.le_trans hs (Nat.le_trans (Nat.le_succ _) hsz)
  have hp := hsz
  clear hsz
  go_wp2_with fail
  refine (SUB.out _).mono ?_
  rintro e w6 ⟨rfl, h6⟩
  obtain ⟨d1, d2, d3, d4, d5, d6, hsz, hb1⟩ := next6 (keep6 ⟨c1, c2, c3, c4, c5, c6, Below.refl _ _⟩ h6 (by dsimp only; omega) (by dsimp only; omega) (by dsimp only; omega) (by dsimp only; omega) (by dsimp only; omega) (by dsimp only; omega)) (by omega) hb0
  clear c1 c2 c3 c4 c5 c6 hb0 h6
  have c1 := d1
  clear d1
  have c2 := d2
  clear d2
  have c3 := d3
  clear d3
  have c4 := d4
  clear d4
  have c5 := d5
  clear d5
  have c6 := d6
  clear d6
  have hb0 := hb1
  clear hb1
  replace hs := Nat.le_trans hs hsz
  replace hp := Nat.le_trans hp hsz
  clear hsz
  go_upto_region 7 with fail
  refine any_gen (fun z => z.cell? ⟨w.heap.size, 0, none⟩ = some (.int .i64 (x)) ∧ z.cell? ⟨w.heap.size, 1, none⟩ = some (.int .i64 (y)) ∧ z.cell? ⟨w.heap.size + 1, 0, none⟩ = some (.int .i64 (u)) ∧ z.cell? ⟨w.heap.size + 1, 1, none⟩ = some (.int .i64 (v)) ∧ z.cell? ⟨w4.heap.size, 0, none⟩ = some (.int .i64 (GX)) ∧ z.cell? ⟨w4.heap.size, 1, none⟩ = some (.int .i64 (GY)) ∧ z.cell? ⟨w6.heap.size, 0, none⟩ = some (.int .i64 (DX)) ∧ z.cell? ⟨w6.heap.size, 1, none⟩ = some (.int .i64 (DY)) ∧ w6.heap.size + 1 ≤ z.heap.size ∧ Below w.heap.size w z) ⟨(World.cell?_alloc_old _ _ _ (by dsimp only; omega)).trans c1, (World.cell?_alloc_old _ _ _ (by dsimp only; omega)).trans c2, (World.cell?_alloc_old _ _ _ (by dsimp only; omega)).trans c3, (World.cell?_alloc_old _ _ _ (by dsimp only; omega)).trans c4, (World.cell?_alloc_old _ _ _ (by dsimp only; omega)).trans c5, (World.cell?_alloc_old _ _ _ (by dsimp only; omega)).trans c6, by simp, by simp, by simp, hb0.alloc (by first | omega | exact hb0.size) _⟩ ?_
  clear c1 c2 c3 c4 c5 c6 hb0
  rintro w7 ⟨c1, c2, c3, c4, c5, c6, c7, c8, hsz, hb0⟩
  replace hs := Nat.le_trans hs (Nat.le_trans (Nat.le_succ _) hsz)
  replace hp := Nat.le_trans hp (Nat.le_trans (Nat.le_succ _) hsz)
  have hd := hsz
  clear hsz
  go_upto_region 8 with fail
  refine any_gen (fun z => z.cell? ⟨w.heap.size, 0, none⟩ = some (.int .i64 (x)) ∧ z.cell? ⟨w.heap.size, 1, none⟩ = some (.int .i64 (y)) ∧ z.cell? ⟨w.heap.size + 1, 0, none⟩ = some (.int .i64 (u)) ∧ z.cell? ⟨w.heap.size + 1, 1, none⟩ = some (.int .i64 (v)) ∧ z.cell? ⟨w4.heap.size, 0, none⟩ = some (.int .i64 (GX)) ∧ z.cell? ⟨w4.heap.size, 1, none⟩ = some (.int .i64 (GY)) ∧ z.cell? ⟨w6.heap.size, 0, none⟩ = some (.int .i64 (DX)) ∧ z.cell? ⟨w6.heap.size, 1, none⟩ = some (.int .i64 (DY)) ∧ z.cell? ⟨w7.heap.size, 0, none⟩ = some (.int .i64 (CX)) ∧ z.cell? ⟨w7.heap.size, 1, none⟩ = some (.int .i64 (CY)) ∧ w7.heap.size + 1 ≤ z.heap.size ∧ Below w.heap.size w z) ⟨(World.cell?_alloc_old _ _ _ (by dsimp only; omega)).trans c1, (World.cell?_alloc_old _ _ _ (by dsimp only; omega)).trans c2, (World.cell?_alloc_old _ _ _ (by dsimp only; omega)).trans c3, (World.cell?_alloc_old _ _ _ (by dsimp only; omega)).trans c4, (World.cell?_alloc_old _ _ _ (by dsimp only; omega)).trans c5, (World.cell?_alloc_old _ _ _ (by dsimp only; omega)).trans c6, (World.cell?_alloc_old _ _ _ (by dsimp only; omega)).trans c7, (World.cell?_alloc_old _ _ _ (by dsimp only; omega)).trans c8, by simp, by simp, by simp, hb0.alloc (by first | omega | exact hb0.size) _⟩ ?_
  clear c1 c2 c3 c4 c5 c6 c7 c8 hb0
  rintro w8 ⟨c1, c2, c3, c4, c5, c6, c7, c8, c9, c10, hsz, hb0⟩
  replace hs := Nat.le_trans hs (Nat.le_trans (Nat.le_succ _) hsz)
  replace hp := Nat.le_trans hp (Nat.le_trans (Nat.le_succ _) hsz)
  replace hd := Nat.le_trans hd (Nat.le_trans (Nat.le_succ _) hsz)
  have hc := hsz
  clear hsz
  go_wp2_with fail
  refine (AL2.out _).mono ?_
  rintro e w9 ⟨rfl, h8⟩
  obtain ⟨d1, d2, d3, d4, d5, d6, d7, d8, d9, d10, hsz, hb1⟩ := next10 (keep10 ⟨c1, c2, c3, c4, c5, c6, c7, c8, c9, c10, Below.refl _ _⟩ h8 (by dsimp only; omega) (by dsimp only; omega) (by dsimp only; omega) (by dsimp only; omega) (by dsimp only; omega) (by dsimp only; omega) (by dsimp only; omega) (by dsimp only; omega) (by dsimp only; omega) (by dsimp only; omega)) (by omega) hb0
  clear c1 c2 c3 c4 c5 c6 c7 c8 c9 c10 hb0 h8
  have c1 := d1
  clear d1
  have c2 := d2
  clear d2
  have c3 := d3
  clear d3
  have c4 := d4
  clear d4
  have c5 := d5
  clear d5
  have c6 := d6
  clear d6
  have c7 := d7
  clear d7
  have c8 := d8
  clear d8
  have c9 := d9
  clear d9
  have c10 := d10
  clear d10
  have hb0 := hb1
  clear hb1
  replace hs := Nat.le_trans hs hsz
  replace hp := Nat.le_trans hp hsz
  replace hd := Nat.le_trans hd hsz
  replace hc := Nat.le_trans hc hsz
  clear hsz
  go_upto_region 9 with fail
  refine any_gen (fun z => z.cell? ⟨w.heap.size, 0, none⟩ = some (.int .i64 (x)) ∧ z.cell? ⟨w.heap.size, 1, none⟩ = some (.int .i64 (y)) ∧ z.cell? ⟨w.heap.size + 1, 0, none⟩ = some (.int .i64 (u)) ∧ z.cell? ⟨w.heap.size + 1, 1, none⟩ = some (.int .i64 (v)) ∧ z.cell? ⟨w4.heap.size, 0, none⟩ = some (.int .i64 (GX)) ∧ z.cell? ⟨w4.heap.size, 1, none⟩ = some (.int .i64 (GY)) ∧ z.cell? ⟨w6.heap.size, 0, none⟩ = some (.int .i64 (DX)) ∧ z.cell? ⟨w6.heap.size, 1, none⟩ = some (.int .i64 (DY)) ∧ z.cell? ⟨w7.heap.size, 0, none⟩ = some (.int .i64 (CX)) ∧ z.cell? ⟨w7.heap.size, 1, none⟩ = some (.int .i64 (CY)) ∧ z.cell? ⟨w9.heap.size, 0, none⟩ = some (.int .i64 (SX)) ∧ z.cell? ⟨w9.heap.size, 1, none⟩ = some (.int .i64 (SY)) ∧ w9.heap.size + 1 ≤ z.heap.size ∧ Below w.heap.size w z) ⟨(World.cell?_alloc_old _ _ _ (by dsimp only; omega)).trans c1, (World.cell?_alloc_old _ _ _ (by dsimp only; omega)).trans c2, (World.cell?_alloc_old _ _ _ (by dsimp only; omega)).trans c3, (World.cell?_alloc_old _ _ _ (by dsimp only; omega)).trans c4, (World.cell?_alloc_old _ _ _ (by dsimp only; omega)).trans c5, (World.cell?_alloc_old _ _ _ (by dsimp only; omega)).trans c6, (World.cell?_alloc_old _ _ _ (by dsimp only; omega)).trans c7, (World.cell?_alloc_old _ _ _ (by dsimp only; omega)).trans c8, (World.cell?_alloc_old _ _ _ (by dsimp only; omega)).trans c9, (World.cell?_alloc_old _ _ _ (by dsimp only; omega)).trans c10, by simp, by simp, by simp, hb0.alloc (by first | omega | exact hb0.size) _⟩ ?_
  clear c1 c2 c3 c4 c5 c6 c7 c8 c9 c10 hb0
  rintro w10 ⟨c1, c2, c3, c4, c5, c6, c7, c8, c9, c10, c11, c12, hsz, hb0⟩
  replace hs := Nat.le_trans hs (Nat.le_trans (Nat.le_succ _) hsz)
  replace hp := Nat.le_trans hp (Nat.le_trans (Nat.le_succ _) hsz)
  replace hd := Nat.le_trans hd (Nat.le_trans (Nat.le_succ _) hsz)
  replace hc := Nat.le_trans hc (Nat.le_trans (Nat.le_succ _) hsz)
  have hq := hsz
  clear hsz
  go_region_held3 (fun w' => w'.cell? ⟨w.heap.size, 0, none⟩ = some (.int .i64 (x)) ∧ w'.cell? ⟨w.heap.size, 1, none⟩ = some (.int .i64 (y)) ∧ w'.cell? ⟨w.heap.size + 1, 0, none⟩ = some (.int .i64 (u)) ∧ w'.cell? ⟨w.heap.size + 1, 1, none⟩ = some (.int .i64 (v)) ∧ w'.cell? ⟨w4.heap.size, 0, none⟩ = some (.int .i64 (GX)) ∧ w'.cell? ⟨w4.heap.size, 1, none⟩ = some (.int .i64 (GY)) ∧ w'.cell? ⟨w6.heap.size, 0, none⟩ = some (.int .i64 (DX)) ∧ w'.cell? ⟨w6.heap.size, 1, none⟩ = some (.int .i64 (DY)) ∧ w'.cell? ⟨w7.heap.size, 0, none⟩ = some (.int .i64 (CX)) ∧ w'.cell? ⟨w7.heap.size, 1, none⟩ = some (.int .i64 (CY)) ∧ w'.cell? ⟨w9.heap.size, 0, none⟩ = some (.int .i64 (SX)) ∧ w'.cell? ⟨w9.heap.size, 1, none⟩ = some (.int .i64 (SY)) ∧ Below w10.heap.size w10 w') ((first | assumption | exact ⟨by simp [*], by simp [*], by simp [*], by simp [*], by simp [*], by simp [*], by simp [*], by simp [*], by simp [*], by simp [*], by simp [*], by simp [*], (Below.refl _ _).drew⟩ | exact keep12 ‹_› hb (by dsimp only; omega) (by dsimp only; omega) (by dsimp only; omega) (by dsimp only; omega) (by dsimp only; omega) (by dsimp only; omega) (by dsimp only; omega) (by dsimp only; omega) (by dsimp only; omega) (by dsimp only; omega) (by dsimp only; omega) (by dsimp only; omega) | exact keepA12 ‹_› _ (by dsimp only; omega) (by dsimp only; omega) (by dsimp only; omega) (by dsimp only; omega) (by dsimp only; omega) (by dsimp only; omega) (by dsimp only; omega) (by dsimp only; omega) (by dsimp only; omega) (by dsimp only; omega) (by dsimp only; omega) (by dsimp only; omega) | exact keepS12 (keepS12 ‹_› _ _ (by dsimp only; omega) (by dsimp only; omega) (by dsimp only; omega) (by dsimp only; omega) (by dsimp only; omega) (by dsimp only; omega) (by dsimp only; omega) (by dsimp only; omega) (by dsimp only; omega) (by dsimp only; omega) (by dsimp only; omega) (by dsimp only; omega) (by dsimp only; omega)) _ _ (by dsimp only; omega) (by dsimp only; omega) (by dsimp only; omega) (by dsimp only; omega) (by dsimp only; omega) (by dsimp only; omega) (by dsimp only; omega) (by dsimp only; omega) (by dsimp only; omega) (by dsimp only; omega) (by dsimp only; omega) (by dsimp only; omega) (by dsimp only; omega))) ((first | (go_at_call 28; with_reducible refine (AB.out _).mono ?_; rintro e w' ⟨rfl, hb⟩) | (go_at_call 28; with_reducible refine (AL3.out _).mono ?_; rintro e w' ⟨rfl, hb⟩) | (go_at_call 12; with_reducible refine (ADD1.out _).mono ?_; rintro e w' ⟨rfl, hb⟩) | (go_at_call 12; with_reducible refine (ADD2.out _).mono ?_; rintro e w' ⟨rfl, hb⟩)))
  have hF := belK12 ‹_ ∧ _ ∧ _ ∧ _ ∧ _ ∧ _ ∧ _ ∧ _ ∧ _ ∧ _ ∧ _ ∧ _ ∧ Below w10.heap.size w10 _›
  go_wp2
  go_ret
  exact ⟨rfl, hb0.trans (hF.mono (by omega))⟩

theorem walk_VectorMiddles (x y u v : Int) (k n : Nat) (w : World) (bk : k ≤ 65535) (bn : n ≤ 65535) :
    Calls Try.prog 7 #[P2 x y, P2 u v, .int .u16 k, .int .u16 n] w fun e w' => e = .returned (.bool true) ∧ Below w.heap.size w w' := by
  rcases na : nearB x y with _ | _
  · exact mid_a x y u v k n w bk bn na
  · rcases nb : nearB u v with _ | _
    · exact mid_b x y u v k n w bk bn na nb
    · by_cases hn : n = 0
      · exact mid_c x y u v k n w bk bn na nb hn
      · exact mid_d x y u v k n w bk bn na nb hn
end Go.Proofs.Ytmdhlkdeadfgdaa
