/- The walk of VectorEnds. -/
import Derived.Test.YtmdhlkdeadfgdaaLaw4S
import Derived.Test.YtmdhlkdeadfgdaaAlong
namespace Go.Proofs.Ytmdhlkdeadfgdaa
open Go.RowKit
set_option linter.unusedVariables false
set_option linter.unusedSimpArgs false
set_option maxHeartbeats 4000000
set_option maxRecDepth 100000

theorem ends_a (x y u v : Int) (k n : Nat) (w : World) (bk : k ≤ 65535) (bn : n ≤ 65535) (na : nearB x y = false) :
    Calls Try.prog 5 #[P2 x y, P2 u v, .int .u16 k, .int .u16 n] w fun e w' => e = .returned (.bool true) ∧ Below w.heap.size w w' := by
  have QR0 := fun w => r4near_any x y w
  simp only [na] at QR0
  have QR := Lib.hid QR0
  clear QR0
  go_enter Try.func5, Try.ntmps5
  go_upto_region 1 with fail
  refine any_gen (fun w' => w'.cell? ⟨w.heap.size, 0, none⟩ = some (.int .i64 (x)) ∧ w'.cell? ⟨w.heap.size, 1, none⟩ = some (.int .i64 (y)) ∧ w'.cell? ⟨w.heap.size + 1, 0, none⟩ = some (.int .i64 (u)) ∧ w'.cell? ⟨w.heap.size + 1, 1, none⟩ = some (.int .i64 (v)) ∧ w.heap.size + 1 + 1 ≤ w'.heap.size ∧ Below w.heap.size w w') ⟨by simp [go_sem], by simp [go_sem], by simp [go_sem], by simp [go_sem], ?siz, ?bel⟩ ?_
  case siz => simp
  case bel => repeat (first | exact Below.refl _ _ | refine below_dN ?_ _ | refine Below.setCell ?_ (by simp; try omega) _ | refine Below.alloc ?_ (by simp; try omega) _)
  rintro w0 ⟨c1, c2, c3, c4, hs, hb0⟩
  go_wp2_with fail
  refine (QR.out _).mono ?_
  rintro e w1 ⟨rfl, h1⟩
  obtain ⟨d1, d2, d3, d4, hsz, hb1⟩ := next4 (keep4 ⟨c1, c2, c3, c4, Below.refl _ _⟩ h1 (by dsimp only; omega) (by dsimp only; omega) (by dsimp only; omega) (by dsimp only; omega)) (by omega) hb0
  clear c1 c2 c3 c4 hb0 h1
  have c1 := d1
  clear d1
  have c2 := d2
  clear d2
  have c3 := d3
  clear d3
  have c4 := d4
  clear d4
  have hb0 := hb1
  clear hb1
  replace hs := Nat.le_trans hs hsz
  clear hsz
  go_wp2_with fail
  refine (shown_any _).mono ?_
  rintro e w2 ⟨rfl, h2⟩
  obtain ⟨d1, d2, d3, d4, hsz, hb1⟩ := next4 (keep4 ⟨c1, c2, c3, c4, Below.refl _ _⟩ h2 (by dsimp only; omega) (by dsimp only; omega) (by dsimp only; omega) (by dsimp only; omega)) (by omega) hb0
  clear c1 c2 c3 c4 hb0 h2
  have c1 := d1
  clear d1
  have c2 := d2
  clear d2
  have c3 := d3
  clear d3
  have c4 := d4
  clear d4
  have hb0 := hb1
  clear hb1
  replace hs := Nat.le_trans hs hsz
  clear hsz
  go_wp2
  go_ret
  exact ⟨rfl, hb0⟩

theorem ends_b (x y u v : Int) (k n : Nat) (w : World) (bk : k ≤ 65535) (bn : n ≤ 65535) (na : nearB x y = true) (nb : nearB u v = false) :
    Calls Try.prog 5 #[P2 x y, P2 u v, .int .u16 k, .int .u16 n] w fun e w' => e = .returned (.bool true) ∧ Below w.heap.size w w' := by
  have QR0 := fun w => r4near_any x y w
  simp only [na] at QR0
  have QR := Lib.hid QR0
  clear QR0
  have QB0 := fun w => r4near_any u v w
  simp only [nb] at QB0
  have QB := Lib.hid QB0
  clear QB0
  go_enter Try.func5, Try.ntmps5
  go_upto_region 1 with fail
  refine any_gen (fun w' => w'.cell? ⟨w.heap.size, 0, none⟩ = some (.int .i64 (x)) ∧ w'.cell? ⟨w.heap.size, 1, none⟩ = some (.int .i64 (y)) ∧ w'.cell? ⟨w.heap.size + 1, 0, none⟩ = some (.int .i64 (u)) ∧ w'.cell? ⟨w.heap.size + 1, 1, none⟩ = some (.int .i64 (v)) ∧ w.heap.size + 1 + 1 ≤ w'.heap.size ∧ Below w.heap.size w w') ⟨by simp [go_sem], by simp [go_sem], by simp [go_sem], by simp [go_sem], ?siz, ?bel⟩ ?_
  case siz => simp
  case bel => repeat (first | exact Below.refl _ _ | refine below_dN ?_ _ | refine Below.setCell ?_ (by simp; try omega) _ | refine Below.alloc ?_ (by simp; try omega) _)
  rintro w0 ⟨c1, c2, c3, c4, hs, hb0⟩
  go_wp2_with fail
  refine (QR.out _).mono ?_
  rintro e w1 ⟨rfl, h1⟩
  obtain ⟨d1, d2, d3, d4, hsz, hb1⟩ := next4 (keep4 ⟨c1, c2, c3, c4, Below.refl _ _⟩ h1 (by dsimp only; omega) (by dsimp only; omega) (by dsimp only; omega) (by dsimp only; omega)) (by omega) hb0
  clear c1 c2 c3 c4 hb0 h1
  have c1 := d1
  clear d1
  have c2 := d2
  clear d2
  have c3 := d3
  clear d3
  have c4 := d4
  clear d4
  have hb0 := hb1
  clear hb1
  replace hs := Nat.le_trans hs hsz
  clear hsz
  go_wp2_with fail
  refine (QB.out _).mono ?_
  rintro e w2 ⟨rfl, h2⟩
  obtain ⟨d1, d2, d3, d4, hsz, hb1⟩ := next4 (keep4 ⟨c1, c2, c3, c4, Below.refl _ _⟩ h2 (by dsimp only; omega) (by dsimp only; omega) (by dsimp only; omega) (by dsimp only; omega)) (by omega) hb0
  clear c1 c2 c3 c4 hb0 h2
  have c1 := d1
  clear d1
  have c2 := d2
  clear d2
  have c3 := d3
  clear d3
  have c4 := d4
  clear d4
  have hb0 := hb1
  clear hb1
  replace hs := Nat.le_trans hs hsz
  clear hsz
  go_wp2_with fail
  refine (shown_any _).mono ?_
  rintro e w3 ⟨rfl, h3⟩
  obtain ⟨d1, d2, d3, d4, hsz, hb1⟩ := next4 (keep4 ⟨c1, c2, c3, c4, Below.refl _ _⟩ h3 (by dsimp only; omega) (by dsimp only; omega) (by dsimp only; omega) (by dsimp only; omega)) (by omega) hb0
  clear c1 c2 c3 c4 hb0 h3
  have c1 := d1
  clear d1
  have c2 := d2
  clear d2
  have c3 := d3
  clear d3
  have c4 := d4
  clear d4
  have hb0 := hb1
  clear hb1
  replace hs := Nat.le_trans hs hsz
  clear hsz
  go_wp2
  go_ret
  exact ⟨rfl, hb0⟩

theorem ends_c (x y u v : Int) (k n : Nat) (w : World) (bk : k ≤ 65535) (bn : n ≤ 65535) (na : nearB x y = true) (nb : nearB u v = true) (hn : n = 0) :
    Calls Try.prog 5 #[P2 x y, P2 u v, .int .u16 k, .int .u16 n] w fun e w' => e = .returned (.bool true) ∧ Below w.heap.size w w' := by
  have QR0 := fun w => r4near_any x y w
  simp only [na] at QR0
  have QR := Lib.hid QR0
  clear QR0
  have QB0 := fun w => r4near_any u v w
  simp only [nb] at QB0
  have QB := Lib.hid QB0
  clear QB0
  have q0 : ((n : Int) == 0) = true := by simp; omega
  have q0' : (n == 0) = true := by simp; omega
  clear hn
  go_enter Try.func5, Try.ntmps5
  go_upto_region 1 with fail
  refine any_gen (fun w' => w'.cell? ⟨w.heap.size, 0, none⟩ = some (.int .i64 (x)) ∧ w'.cell? ⟨w.heap.size, 1, none⟩ = some (.int .i64 (y)) ∧ w'.cell? ⟨w.heap.size + 1, 0, none⟩ = some (.int .i64 (u)) ∧ w'.cell? ⟨w.heap.size + 1, 1, none⟩ = some (.int .i64 (v)) ∧ w.heap.size + 1 + 1 ≤ w'.heap.size ∧ Below w.heap.size w w') ⟨by simp [go_sem], by simp [go_sem], by simp [go_sem], by simp [go_sem], ?siz, ?bel⟩ ?_
  case siz => simp
  case bel => repeat (first | exact Below.refl _ _ | refine below_dN ?_ _ | refine Below.setCell ?_ (by simp; try omega) _ | refine Below.alloc ?_ (by simp; try omega) _)
  rintro w0 ⟨c1, c2, c3, c4, hs, hb0⟩
  go_wp2_with fail
  refine (QR.out _).mono ?_
  rintro e w1 ⟨rfl, h1⟩
  obtain ⟨d1, d2, d3, d4, hsz, hb1⟩ := next4 (keep4 ⟨c1, c2, c3, c4, Below.refl _ _⟩ h1 (by dsimp only; omega) (by dsimp only; omega) (by dsimp only; omega) (by dsimp only; omega)) (by omega) hb0
  clear c1 c2 c3 c4 hb0 h1
  have c1 := d1
  clear d1
  have c2 := d2
  clear d2
  have c3 := d3
  clear d3
  have c4 := d4
  clear d4
  have hb0 := hb1
  clear hb1
  replace hs := Nat.le_trans hs hsz
  clear hsz
  go_wp2_with fail
  refine (QB.out _).mono ?_
  rintro e w2 ⟨rfl, h2⟩
  obtain ⟨d1, d2, d3, d4, hsz, hb1⟩ := next4 (keep4 ⟨c1, c2, c3, c4, Below.refl _ _⟩ h2 (by dsimp only; omega) (by dsimp only; omega) (by dsimp only; omega) (by dsimp only; omega)) (by omega) hb0
  clear c1 c2 c3 c4 hb0 h2
  have c1 := d1
  clear d1
  have c2 := d2
  clear d2
  have c3 := d3
  clear d3
  have c4 := d4
  clear d4
  have hb0 := hb1
  clear hb1
  replace hs := Nat.le_trans hs hsz
  clear hsz
  go_wp2_with fail
  refine (shown_any _).mono ?_
  rintro e w3 ⟨rfl, h3⟩
  obtain ⟨d1, d2, d3, d4, hsz, hb1⟩ := next4 (keep4 ⟨c1, c2, c3, c4, Below.refl _ _⟩ h3 (by dsimp only; omega) (by dsimp only; omega) (by dsimp only; omega) (by dsimp only; omega)) (by omega) hb0
  clear c1 c2 c3 c4 hb0 h3
  have c1 := d1
  clear d1
  have c2 := d2
  clear d2
  have c3 := d3
  clear d3
  have c4 := d4
  clear d4
  have hb0 := hb1
  clear hb1
  replace hs := Nat.le_trans hs hsz
  clear hsz
  go_wp2
  go_ret
  exact ⟨rfl, hb0⟩

theorem ends_d (x y u v : Int) (k n : Nat) (w : World) (bk : k ≤ 65535) (bn : n ≤ 65535) (na : nearB x y = true) (nb : nearB u v = true) (hn : n ≠ 0) :
    Calls Try.prog 5 #[P2 x y, P2 u v, .int .u16 k, .int .u16 n] w fun e w' => e = .returned (.bool true) ∧ Below w.heap.size w w' := by
  obtain ⟨hx, hy⟩ := nearB_iff.1 na
  obtain ⟨hu, hv⟩ := nearB_iff.1 nb
  have QR0 := fun w => r4near_any x y w
  simp only [na] at QR0
  have QR := Lib.hid QR0
  clear QR0
  have QB0 := fun w => r4near_any u v w
  simp only [nb] at QB0
  have QB := Lib.hid QB0
  clear QB0
  have q0 : ((n : Int) == 0) = false := by simp; omega
  have q0' : (n == 0) = false := by simp; omega
  have z1 : ((n : Int) + 1 == 0) = false := by simp; omega
  have z2 : ¬ (n : Int) + 1 = 0 := by omega
  obtain ⟨i, hi⟩ : ∃ i, k % (n + 1) = i := ⟨_, rfl⟩
  have i1 : i ≤ n := by have := Nat.mod_lt k (show 0 < n + 1 by omega); omega
  have e1 : (k : Int) % ((n : Int) + 1) = (i : Int) := by rw [← hi, Int.natCast_emod]; rfl
  have e1' : (k : Int).tmod ((n : Int) + 1) = (i : Int) := by rw [Int.tmod_eq_emod_of_nonneg (by omega), e1]
  have e0 : IntKind.i64.wrap (k : Int) = (k : Int) := IntWalk.i64_in _ (by omega)
  have e2 : IntKind.i64.wrap ((n : Int) + 1) = (n : Int) + 1 := IntWalk.i64_in _ (by omega)
  have a1 := along_in x u i n (by omega) (by omega)
  have a2 := along_in y v i n (by omega) (by omega)
  have E0x := along_0 x u n (by omega)
  have E0y := along_0 y v n (by omega)
  have E1x := along_m x u n (by omega)
  have E1y := along_m y v n (by omega)
  have AL0 := fun w => valong_any x y u v i n w hx hy hu hv (by omega) (by omega)
  have AL := Lib.hid AL0
  clear AL0
  have AL00 := fun w => valong_any x y u v 0 n w hx hy hu hv (by omega) (by omega)
  simp only [E0x, E0y] at AL00
  have AL0 := Lib.hid AL00
  clear AL00
  have AL10 := fun w => valong_any x y u v n n w hx hy hu hv (by omega) (by omega)
  simp only [E1x, E1y] at AL10
  have AL1 := Lib.hid AL10
  clear AL10
  obtain ⟨GX, hGX⟩ : ∃ GX, alongQ x u i n = GX := ⟨_, rfl⟩
  obtain ⟨GY, hGY⟩ : ∃ GY, alongQ y v i n = GY := ⟨_, rfl⟩
  obtain ⟨MX, hMX⟩ : ∃ MX, min x u = MX := ⟨_, rfl⟩
  obtain ⟨LX, hLX⟩ : ∃ LX, max x u = LX := ⟨_, rfl⟩
  obtain ⟨MY, hMY⟩ : ∃ MY, min y v = MY := ⟨_, rfl⟩
  obtain ⟨LY, hLY⟩ : ∃ LY, max y v = LY := ⟨_, rfl⟩
  rw [hGX] at AL a1
  rw [hGY] at AL a2
  rw [hMX, hLX] at a1
  rw [hMY, hLY] at a2
  have m1 : (if u < x then u else x) = MX := by rw [← hMX]; split <;> omega
  have m2 : (if x < u then u else x) = LX := by rw [← hLX]; split <;> omega
  have m3 : (if v < y then v else y) = MY := by rw [← hMY]; split <;> omega
  have m4 : (if y < v then v else y) = LY := by rw [← hLY]; split <;> omega
  have t1 : decide (MX ≤ GX) = true := by simp; omega
  have t2 : decide (GX ≤ LX) = true := by simp; omega
  have t3 : decide (MY ≤ GY) = true := by simp; omega
  have t4 : decide (GY ≤ LY) = true := by simp; omega
  have t5 : (x == x) = true := by simp
  have t6 : (y == y) = true := by simp
  have t7 : (u == u) = true := by simp
  have t8 : (v == v) = true := by simp
  clear hx hy hu hv hi E0x E0y E1x E1y hGX hGY a1 a2 na nb hn
  go_enter Try.func5, Try.ntmps5
  go_upto_region 1 with fail
  refine any_gen (fun w' => w'.cell? ⟨w.heap.size, 0, none⟩ = some (.int .i64 (x)) ∧ w'.cell? ⟨w.heap.size, 1, none⟩ = some (.int .i64 (y)) ∧ w'.cell? ⟨w.heap.size + 1, 0, none⟩ = some (.int .i64 (u)) ∧ w'.cell? ⟨w.heap.size + 1, 1, none⟩ = some (.int .i64 (v)) ∧ w.heap.size + 1 + 1 ≤ w'.heap.size ∧ Below w.heap.size w w') ⟨by simp [go_sem], by simp [go_sem], by simp [go_sem], by simp [go_sem], ?siz, ?bel⟩ ?_
  case siz => simp
  case bel => repeat (first | exact Below.refl _ _ | refine below_dN ?_ _ | refine Below.setCell ?_ (by simp; try omega) _ | refine Below.alloc ?_ (by simp; try omega) _)
  rintro w0 ⟨c1, c2, c3, c4, hs, hb0⟩
  go_wp2_with fail
  refine (QR.out _).mono ?_
  rintro e w1 ⟨rfl, h1⟩
  obtain ⟨d1, d2, d3, d4, hsz, hb1⟩ := next4 (keep4 ⟨c1, c2, c3, c4, Below.refl _ _⟩ h1 (by dsimp only; omega) (by dsimp only; omega) (by dsimp only; omega) (by dsimp only; omega)) (by omega) hb0
  clear c1 c2 c3 c4 hb0 h1
  have c1 := d1
  clear d1
  have c2 := d2
  clear d2
  have c3 := d3
  clear d3
  have c4 := d4
  clear d4
  have hb0 := hb1
  clear hb1
  replace hs := Nat.le_trans hs hsz
  clear hsz
  go_wp2_with fail
  refine (QB.out _).mono ?_
  rintro e w2 ⟨rfl, h2⟩
  obtain ⟨d1, d2, d3, d4, hsz, hb1⟩ := next4 (keep4 ⟨c1, c2, c3, c4, Below.refl _ _⟩ h2 (by dsimp only; omega) (by dsimp only; omega) (by dsimp only; omega) (by dsimp only; omega)) (by omega) hb0
  clear c1 c2 c3 c4 hb0 h2
  have c1 := d1
  clear d1
  have c2 := d2
  clear d2
  have c3 := d3
  clear d3
  have c4 := d4
  clear d4
  have hb0 := hb1
  clear hb1
  replace hs := Nat.le_trans hs hsz
  clear hsz
  go_wp2_with fail
  refine (shown_any _).mono ?_
  rintro e w3 ⟨rfl, h3⟩
  obtain ⟨d1, d2, d3, d4, hsz, hb1⟩ := next4 (keep4 ⟨c1, c2, c3, c4, Below.refl _ _⟩ h3 (by dsimp only; omega) (by dsimp only; omega) (by dsimp only; omega) (by dsimp only; omega)) (by omega) hb0
  clear c1 c2 c3 c4 hb0 h3
  have c1 := d1
  clear d1
  have c2 := d2
  clear d2
  have c3 := d3
  clear d3
  have c4 := d4
  clear d4
  have hb0 := hb1
  clear hb1
  replace hs := Nat.le_trans hs hsz
  clear hsz
  go_upto_region 4 with fail
  go_cut [10] (fun s10 wx => ∃ g : Nat, s10 = .pointer (some ⟨g, 0, none⟩) ∧ (wx.cell? ⟨g, 0, none⟩ = some (.int .i64 GX) ∧ wx.cell? ⟨g, 1, none⟩ = some (.int .i64 GY)) ∧ (wx.cell? ⟨w.heap.size, 0, none⟩ = some (.int .i64 x) ∧ wx.cell? ⟨w.heap.size, 1, none⟩ = some (.int .i64 y) ∧ wx.cell? ⟨w.heap.size + 1, 0, none⟩ = some (.int .i64 u) ∧ wx.cell? ⟨w.heap.size + 1, 1, none⟩ = some (.int .i64 v)) ∧ (g < wx.heap.size ∧ w.heap.size + 1 + 1 ≤ wx.heap.size) ∧ Below w.heap.size w wx)
  case first =>
    go_region_held3 (fun w' => w'.cell? ⟨w.heap.size, 0, none⟩ = some (.int .i64 (x)) ∧ w'.cell? ⟨w.heap.size, 1, none⟩ = some (.int .i64 (y)) ∧ w'.cell? ⟨w.heap.size + 1, 0, none⟩ = some (.int .i64 (u)) ∧ w'.cell? ⟨w.heap.size + 1, 1, none⟩ = some (.int .i64 (v)) ∧ Below w3.heap.size w3 w') ((first | assumption | exact ⟨by simp [*], by simp [*], by simp [*], by simp [*], (Below.refl _ _).drew⟩ | exact keep4 ‹_› hb (by dsimp only; omega) (by dsimp only; omega) (by dsimp only; omega) (by dsimp only; omega) | exact keepA4 ‹_› _ (by dsimp only; omega) (by dsimp only; omega) (by dsimp only; omega) (by dsimp only; omega) | exact keepS4 (keepS4 ‹_› _ _ (by dsimp only; omega) (by dsimp only; omega) (by dsimp only; omega) (by dsimp only; omega) (by dsimp only; omega)) _ _ (by dsimp only; omega) (by dsimp only; omega) (by dsimp only; omega) (by dsimp only; omega) (by dsimp only; omega))) ((first | (go_at_call 28; with_reducible refine (AL.out _).mono ?_; rintro e w' ⟨rfl, hb⟩; obtain ⟨hcc, hff⟩ := bcell hb; have hzz := hb.size; (try simp at hzz); (try (have hx0 := hcc w3.heap.size 0 (by first | omega | (simp; done) | (simp; omega)); have hx1 := hcc w3.heap.size 1 (by first | omega | (simp; done) | (simp; omega)); have hx2 := hff w3.heap.size 0 (by first | omega | (simp; done) | (simp; omega)); have hx3 := hff w3.heap.size 1 (by first | omega | (simp; done) | (simp; omega)))); have hStay := keep4 ‹_› hb (by dsimp only; omega) (by dsimp only; omega) (by dsimp only; omega) (by dsimp only; omega))))
    all_goals
      go_wp2_with fail
      go_meet
      have HH := ‹_ ∧ _ ∧ _ ∧ _ ∧ Below w3.heap.size w3 _›
      have hF := belK4 HH
      have hZ := hF.size
      exact ⟨_, rfl, ⟨by simp [go_sem, *], by simp [go_sem, *]⟩, ⟨HH.1, HH.2.1, HH.2.2.1, HH.2.2.2.1⟩, ⟨by first | omega | (simp at *; done) | (simp at *; omega), by first | omega | (simp at *; done) | (simp at *; omega)⟩, hb0.trans (hF.mono (by omega))⟩
  case rest =>
    obtain ⟨g, rfl, ⟨c5, c6⟩, ⟨c1, c2, c3, c4⟩, ⟨hg, hs⟩, hb0⟩ := hcut
    obtain ⟨w4, rfl⟩ : ∃ w4 : World, w4 = wc := ⟨_, rfl⟩
    go_wp2_with fail
    go_region_held3 (fun w' => w'.cell? ⟨w.heap.size, 0, none⟩ = some (.int .i64 (x)) ∧ w'.cell? ⟨w.heap.size, 1, none⟩ = some (.int .i64 (y)) ∧ w'.cell? ⟨w.heap.size + 1, 0, none⟩ = some (.int .i64 (u)) ∧ w'.cell? ⟨w.heap.size + 1, 1, none⟩ = some (.int .i64 (v)) ∧ w'.cell? ⟨g, 0, none⟩ = some (.int .i64 (GX)) ∧ w'.cell? ⟨g, 1, none⟩ = some (.int .i64 (GY)) ∧ Below w4.heap.size w4 w') ((first | assumption | exact ⟨by simp [*], by simp [*], by simp [*], by simp [*], by simp [*], by simp [*], (Below.refl _ _).drew⟩ | exact keep6 ‹_› hb (by dsimp only; omega) (by dsimp only; omega) (by dsimp only; omega) (by dsimp only; omega) (by dsimp only; omega) (by dsimp only; omega) | exact keepA6 ‹_› _ (by dsimp only; omega) (by dsimp only; omega) (by dsimp only; omega) (by dsimp only; omega) (by dsimp only; omega) (by dsimp only; omega) | exact keepS6 (keepS6 ‹_› _ _ (by dsimp only; omega) (by dsimp only; omega) (by dsimp only; omega) (by dsimp only; omega) (by dsimp only; omega) (by dsimp only; omega) (by dsimp only; omega)) _ _ (by dsimp only; omega) (by dsimp only; omega) (by dsimp only; omega) (by dsimp only; omega) (by dsimp only; omega) (by dsimp only; omega) (by dsimp only; omega))) ((first | (go_at_call 28; with_reducible refine (AL0.out _).mono ?_; rintro e w' ⟨rfl, hb⟩) | (go_at_call 28; with_reducible refine (AL1.out _).mono ?_; rintro e w' ⟨rfl, hb⟩)))
    have hF := belK6 ‹_ ∧ _ ∧ _ ∧ _ ∧ _ ∧ _ ∧ Below w4.heap.size w4 _›
    go_wp2
    go_ret
    exact ⟨rfl, hb0.trans (hF.mono (by omega))⟩

theorem walk_VectorEnds (x y u v : Int) (k n : Nat) (w : World) (bk : k ≤ 65535) (bn : n ≤ 65535) :
    Calls Try.prog 5 #[P2 x y, P2 u v, .int .u16 k, .int .u16 n] w fun e w' => e = .returned (.bool true) ∧ Below w.heap.size w w' := by
  rcases na : nearB x y with _ | _
  · exact ends_a x y u v k n w bk bn na
  · rcases nb : nearB u v with _ | _
    · exact ends_b x y u v k n w bk bn na nb
    · by_cases hn : n = 0
      · exact ends_c x y u v k n w bk bn na nb hn
      · exact ends_d x y u v k n w bk bn na nb hn
end Go.Proofs.Ytmdhlkdeadfgdaa
