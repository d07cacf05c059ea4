/- The walk of VectorLens. -/
import Derived.Test.YtmdhlkdeadfgdaaLaw4S
import Derived.Test.YtmdhlkdeadfgdaaAlong
namespace Go.Proofs.Ytmdhlkdeadfgdaa
open Go.RowKit
set_option linter.unusedVariables false
set_option linter.unusedSimpArgs false
set_option maxHeartbeats 4000000
set_option maxRecDepth 100000

theorem near_bd (x y : Int) (na : nearB x y = true) : lenN x y ≤ 1518500249 ∧ (-2147483648 ≤ x ∧ x ≤ 2147483648) ∧ (-2147483648 ≤ y ∧ y ≤ 2147483648) := by
  obtain ⟨hx, hy⟩ := nearB_iff.1 na
  exact ⟨lenN_bd x y hx hy, by omega, by omega⟩

theorem lens_a (x y : Int) (w : World) (na : nearB x y = false) :
    Calls Try.prog 6 #[P2 x y] w fun e w' => e = .returned (.bool true) ∧ Below w.heap.size w w' := by
  have QR0 := fun w => r4near_any x y w
  simp only [na] at QR0
  have QR := Lib.hid QR0
  clear QR0
  go_enter Try.func6, Try.ntmps6
  go_upto_region 1 with fail
  refine any_gen (fun w' => w'.cell? ⟨w.heap.size, 0, none⟩ = some (.int .i64 (x)) ∧ w'.cell? ⟨w.heap.size, 1, none⟩ = some (.int .i64 (y)) ∧ w.heap.size + 1 ≤ w'.heap.size ∧ Below w.heap.size w w') ⟨by simp [go_sem], by simp [go_sem], ?siz, ?bel⟩ ?_
  case siz => simp
  case bel => repeat (first | exact Below.refl _ _ | refine below_dN ?_ _ | refine Below.setCell ?_ (by simp; try omega) _ | refine Below.alloc ?_ (by simp; try omega) _)
  rintro w0 ⟨c1, c2, hs, hb0⟩
  go_wp2_with fail
  refine (QR.out _).mono ?_
  rintro e w1 ⟨rfl, h1⟩
  obtain ⟨d1, d2, hsz, hb1⟩ := next2 (keep2 ⟨c1, c2, Below.refl _ _⟩ h1 (by (try dsimp only); omega) (by (try dsimp only); omega)) (by omega) hb0
  clear c1 c2 hb0 h1
  have c1 := d1
  clear d1
  have c2 := d2
  clear d2
  have hb0 := hb1
  clear hb1
  replace hs := Nat.le_trans hs hsz
  clear hsz
  go_wp2_with fail
  refine (shown_any _).mono ?_
  rintro e w2 ⟨rfl, h2⟩
  obtain ⟨d1, d2, hsz, hb1⟩ := next2 (keep2 ⟨c1, c2, Below.refl _ _⟩ h2 (by (try dsimp only); omega) (by (try dsimp only); omega)) (by omega) hb0
  clear c1 c2 hb0 h2
  have c1 := d1
  clear d1
  have c2 := d2
  clear d2
  have hb0 := hb1
  clear hb1
  replace hs := Nat.le_trans hs hsz
  clear hsz
  go_wp2
  go_ret
  exact ⟨rfl, hb0⟩

theorem lens_b00 (x y : Int) (w : World) (na : nearB x y = true) (sx : ¬ x < 0) (sy : ¬ y < 0) :
    Calls Try.prog 6 #[P2 x y] w fun e w' => e = .returned (.bool true) ∧ Below w.heap.size w w' := by
  obtain ⟨hx, hy⟩ := nearB_iff.1 na
  obtain ⟨lb, gx, gy⟩ := near_bd x y na
  obtain ⟨f1, f2, f3, f4, f5⟩ := len_facts x y hx hy
  have s1 := sq_near x hx
  have s2 := sq_near y hy
  have hnx : -1073741824 ≤ -x ∧ -x ≤ 1073741824 := by omega
  have hny : -1073741824 ≤ -y ∧ -y ≤ 1073741824 := by omega
  have eln := len_neg x y
  obtain ⟨N, hN⟩ := Int.eq_ofNat_of_zero_le (show 0 ≤ x * x + y * y by omega)
  have QR0 := fun w => r4near_any x y w
  simp only [na] at QR0
  have QR := Lib.hid QR0
  clear QR0
  have hN2 : (x * x + y * y).toNat = N := by rw [hN]; rfl
  rw [hN2] at f1 f2
  obtain ⟨LN, hLN⟩ : ∃ LN, lenN x y = LN := ⟨_, rfl⟩
  obtain ⟨NX, hNX⟩ : ∃ NX, -x = NX := ⟨_, rfl⟩
  obtain ⟨NY, hNY⟩ : ∃ NY, -y = NY := ⟨_, rfl⟩
  have LEN0 := fun w => vlen_any x y w hx hy
  simp only [hLN] at LEN0
  have LEN := Lib.hid LEN0
  clear LEN0
  have DOT0 := fun w => vdot_any x y x y w hx hy hx hy
  simp only [hN] at DOT0
  have DOT := Lib.hid DOT0
  clear DOT0
  have NEG0 := fun w => vneg_any x y w gx gy
  simp only [hNX, hNY] at NEG0
  have NEG := Lib.hid NEG0
  clear NEG0
  have LEN20 := fun w => vlen_any (-x) (-y) w hnx hny
  simp only [eln] at LEN20
  simp only [hLN, hNX, hNY] at LEN20
  have LEN2 := Lib.hid LEN20
  clear LEN20
  rw [hLN] at f1 f2 f3 f4 f5 lb
  have m1 := Nat.mul_le_mul lb lb
  have m2 := Nat.mul_le_mul (Nat.succ_le_succ lb) (Nat.succ_le_succ lb)
  obtain ⟨P, hP⟩ : ∃ P, LN * LN = P := ⟨_, rfl⟩
  obtain ⟨Q, hQ⟩ : ∃ Q, (LN + 1) * (LN + 1) = Q := ⟨_, rfl⟩
  rw [hP] at f1 m1
  rw [hQ] at f2
  have m3 : Q ≤ 1518500250 * 1518500250 := by rw [← hQ]; exact m2
  have e1 : IntKind.i64.wrap ((LN : Int) * (LN : Int)) = (P : Int) := by rw [← Int.natCast_mul, hP]; exact IntWalk.i64_in _ (by omega)
  have e2 : IntKind.i64.wrap ((LN : Int) + 1) = (LN : Int) + 1 := IntWalk.i64_in _ (by omega)
  have e3 : IntKind.i64.wrap (((LN : Int) + 1) * ((LN : Int) + 1)) = (Q : Int) := by rw [show ((LN : Int) + 1) * ((LN : Int) + 1) = (Q : Int) from by rw [← hQ]; simp]; exact IntWalk.i64_in _ (by omega)
  have n1 : IntKind.i64.wrap (-x) = NX := by rw [hNX]; exact IntWalk.i64_in _ (by omega)
  have n2 : IntKind.i64.wrap (-y) = NY := by rw [hNY]; exact IntWalk.i64_in _ (by omega)
  have px : NX ≤ x := by omega
  have py : NY ≤ y := by omega
  have px2 : ¬ x < NX := by omega
  have py2 : ¬ y < NY := by omega
  have mx : max x NX = x := by omega
  have my : max y NY = y := by omega
  have qx : decide (x < NX) = false := by simp; omega
  have qy : decide (y < NY) = false := by simp; omega
  have b1 : 0 ≤ x ∧ x ≤ 1073741824 := by omega
  have b2 : 0 ≤ y ∧ y ≤ 1073741824 := by omega
  have e4 : IntKind.i64.wrap (x + y) = x + y := IntWalk.i64_in _ (by omega)
  have t1 : decide ((P : Int) ≤ (N : Int)) = true := by simp; omega
  have d1 : decide (P ≤ N) = true := by simp; omega
  have t2 : decide ((N : Int) < (Q : Int)) = true := by simp; omega
  have d2 : decide (N < Q) = true := by simp; omega
  have t3 : decide ((LN : Int) ≤ x + y) = true := by simp; omega
  have t4 : decide (x ≤ (LN : Int)) = true := by simp; omega
  have t5 : decide (y ≤ (LN : Int)) = true := by simp; omega
  have t6 : ((LN : Int) == (LN : Int)) = true := by simp
  clear f1 f2 f3 f4 f5 s1 s2 eln hN hN2 hLN hNX hNY hP hQ m1 m2 m3 hnx hny na
  go_enter Try.func6, Try.ntmps6
  go_upto_region 1 with fail
  refine any_gen (fun w' => w'.cell? ⟨w.heap.size, 0, none⟩ = some (.int .i64 (x)) ∧ w'.cell? ⟨w.heap.size, 1, none⟩ = some (.int .i64 (y)) ∧ w.heap.size + 1 ≤ w'.heap.size ∧ Below w.heap.size w w') ⟨by simp [go_sem], by simp [go_sem], ?siz, ?bel⟩ ?_
  case siz => simp
  case bel => repeat (first | exact Below.refl _ _ | refine below_dN ?_ _ | refine Below.setCell ?_ (by simp; try omega) _ | refine Below.alloc ?_ (by simp; try omega) _)
  rintro w0 ⟨c1, c2, hs, hb0⟩
  go_wp2_with fail
  refine (QR.out _).mono ?_
  rintro e w1 ⟨rfl, h1⟩
  obtain ⟨d1, d2, hsz, hb1⟩ := next2 (keep2 ⟨c1, c2, Below.refl _ _⟩ h1 (by (try dsimp only); omega) (by (try dsimp only); omega)) (by omega) hb0
  clear c1 c2 hb0 h1
  have c1 := d1
  clear d1
  have c2 := d2
  clear d2
  have hb0 := hb1
  clear hb1
  replace hs := Nat.le_trans hs hsz
  clear hsz
  go_wp2_with fail
  refine (shown_any _).mono ?_
  rintro e w2 ⟨rfl, h2⟩
  obtain ⟨d1, d2, hsz, hb1⟩ := next2 (keep2 ⟨c1, c2, Below.refl _ _⟩ h2 (by (try dsimp only); omega) (by (try dsimp only); omega)) (by omega) hb0
  clear c1 c2 hb0 h2
  have c1 := d1
  clear d1
  have c2 := d2
  clear d2
  have hb0 := hb1
  clear hb1
  replace hs := Nat.le_trans hs hsz
  clear hsz
  go_wp2_with fail
  refine (LEN.out _).mono ?_
  rintro e w3 ⟨rfl, h3⟩
  obtain ⟨d1, d2, hsz, hb1⟩ := next2 (keep2 ⟨c1, c2, Below.refl _ _⟩ h3 (by (try dsimp only); omega) (by (try dsimp only); omega)) (by omega) hb0
  clear c1 c2 hb0 h3
  have c1 := d1
  clear d1
  have c2 := d2
  clear d2
  have hb0 := hb1
  clear hb1
  replace hs := Nat.le_trans hs hsz
  clear hsz
  go_wp2_with fail
  refine (DOT.out _).mono ?_
  rintro e w4 ⟨rfl, h4⟩
  obtain ⟨d1, d2, hsz, hb1⟩ := next2 (keep2 ⟨c1, c2, Below.refl _ _⟩ h4 (by (try dsimp only); omega) (by (try dsimp only); omega)) (by omega) hb0
  clear c1 c2 hb0 h4
  have c1 := d1
  clear d1
  have c2 := d2
  clear d2
  have hb0 := hb1
  clear hb1
  replace hs := Nat.le_trans hs hsz
  clear hsz
  go_wp2_with fail
  refine (NEG.out _).mono ?_
  rintro e w5 ⟨rfl, h5⟩
  obtain ⟨d1, d2, hsz, hb1⟩ := next2 (keep2 ⟨c1, c2, Below.refl _ _⟩ h5 (by (try dsimp only); omega) (by (try dsimp only); omega)) (by omega) hb0
  clear c1 c2 hb0 h5
  have c1 := d1
  clear d1
  have c2 := d2
  clear d2
  have hb0 := hb1
  clear hb1
  replace hs := Nat.le_trans hs hsz
  clear hsz
  go_wp2_with fail
  refine (LEN2.out _).mono ?_
  rintro e w6 ⟨rfl, h6⟩
  go_wp2
  go_ret
  exact ⟨rfl, hb0.trans (h6.mono (by omega))⟩

theorem lens_b01 (x y : Int) (w : World) (na : nearB x y = true) (sx : ¬ x < 0) (sy : y < 0) :
    Calls Try.prog 6 #[P2 x y] w fun e w' => e = .returned (.bool true) ∧ Below w.heap.size w w' := by
  obtain ⟨hx, hy⟩ := nearB_iff.1 na
  obtain ⟨lb, gx, gy⟩ := near_bd x y na
  obtain ⟨f1, f2, f3, f4, f5⟩ := len_facts x y hx hy
  have s1 := sq_near x hx
  have s2 := sq_near y hy
  have hnx : -1073741824 ≤ -x ∧ -x ≤ 1073741824 := by omega
  have hny : -1073741824 ≤ -y ∧ -y ≤ 1073741824 := by omega
  have eln := len_neg x y
  obtain ⟨N, hN⟩ := Int.eq_ofNat_of_zero_le (show 0 ≤ x * x + y * y by omega)
  have QR0 := fun w => r4near_any x y w
  simp only [na] at QR0
  have QR := Lib.hid QR0
  clear QR0
  have hN2 : (x * x + y * y).toNat = N := by rw [hN]; rfl
  rw [hN2] at f1 f2
  obtain ⟨LN, hLN⟩ : ∃ LN, lenN x y = LN := ⟨_, rfl⟩
  obtain ⟨NX, hNX⟩ : ∃ NX, -x = NX := ⟨_, rfl⟩
  obtain ⟨NY, hNY⟩ : ∃ NY, -y = NY := ⟨_, rfl⟩
  have LEN0 := fun w => vlen_any x y w hx hy
  simp only [hLN] at LEN0
  have LEN := Lib.hid LEN0
  clear LEN0
  have DOT0 := fun w => vdot_any x y x y w hx hy hx hy
  simp only [hN] at DOT0
  have DOT := Lib.hid DOT0
  clear DOT0
  have NEG0 := fun w => vneg_any x y w gx gy
  simp only [hNX, hNY] at NEG0
  have NEG := Lib.hid NEG0
  clear NEG0
  have LEN20 := fun w => vlen_any (-x) (-y) w hnx hny
  simp only [eln] at LEN20
  simp only [hLN, hNX, hNY] at LEN20
  have LEN2 := Lib.hid LEN20
  clear LEN20
  rw [hLN] at f1 f2 f3 f4 f5 lb
  have m1 := Nat.mul_le_mul lb lb
  have m2 := Nat.mul_le_mul (Nat.succ_le_succ lb) (Nat.succ_le_succ lb)
  obtain ⟨P, hP⟩ : ∃ P, LN * LN = P := ⟨_, rfl⟩
  obtain ⟨Q, hQ⟩ : ∃ Q, (LN + 1) * (LN + 1) = Q := ⟨_, rfl⟩
  rw [hP] at f1 m1
  rw [hQ] at f2
  have m3 : Q ≤ 1518500250 * 1518500250 := by rw [← hQ]; exact m2
  have e1 : IntKind.i64.wrap ((LN : Int) * (LN : Int)) = (P : Int) := by rw [← Int.natCast_mul, hP]; exact IntWalk.i64_in _ (by omega)
  have e2 : IntKind.i64.wrap ((LN : Int) + 1) = (LN : Int) + 1 := IntWalk.i64_in _ (by omega)
  have e3 : IntKind.i64.wrap (((LN : Int) + 1) * ((LN : Int) + 1)) = (Q : Int) := by rw [show ((LN : Int) + 1) * ((LN : Int) + 1) = (Q : Int) from by rw [← hQ]; simp]; exact IntWalk.i64_in _ (by omega)
  have n1 : IntKind.i64.wrap (-x) = NX := by rw [hNX]; exact IntWalk.i64_in _ (by omega)
  have n2 : IntKind.i64.wrap (-y) = NY := by rw [hNY]; exact IntWalk.i64_in _ (by omega)
  have px : NX ≤ x := by omega
  have py : y < NY := by omega
  have px2 : ¬ x < NX := by omega
  have py2 : y < NY := by omega
  have mx : max x NX = x := by omega
  have my : max y NY = NY := by omega
  have qx : decide (x < NX) = false := by simp; omega
  have qy : decide (y < NY) = true := by simp; omega
  have b1 : 0 ≤ x ∧ x ≤ 1073741824 := by omega
  have b2 : 0 ≤ NY ∧ NY ≤ 1073741824 := by omega
  have e4 : IntKind.i64.wrap (x + NY) = x + NY := IntWalk.i64_in _ (by omega)
  have t1 : decide ((P : Int) ≤ (N : Int)) = true := by simp; omega
  have d1 : decide (P ≤ N) = true := by simp; omega
  have t2 : decide ((N : Int) < (Q : Int)) = true := by simp; omega
  have d2 : decide (N < Q) = true := by simp; omega
  have t3 : decide ((LN : Int) ≤ x + NY) = true := by simp; omega
  have t4 : decide (x ≤ (LN : Int)) = true := by simp; omega
  have t5 : decide (NY ≤ (LN : Int)) = true := by simp; omega
  have t6 : ((LN : Int) == (LN : Int)) = true := by simp
  clear f1 f2 f3 f4 f5 s1 s2 eln hN hN2 hLN hNX hNY hP hQ m1 m2 m3 hnx hny na
  go_enter Try.func6, Try.ntmps6
  go_upto_region 1 with fail
  refine any_gen (fun w' => w'.cell? ⟨w.heap.size, 0, none⟩ = some (.int .i64 (x)) ∧ w'.cell? ⟨w.heap.size, 1, none⟩ = some (.int .i64 (y)) ∧ w.heap.size + 1 ≤ w'.heap.size ∧ Below w.heap.size w w') ⟨by simp [go_sem], by simp [go_sem], ?siz, ?bel⟩ ?_
  case siz => simp
  case bel => repeat (first | exact Below.refl _ _ | refine below_dN ?_ _ | refine Below.setCell ?_ (by simp; try omega) _ | refine Below.alloc ?_ (by simp; try omega) _)
  rintro w0 ⟨c1, c2, hs, hb0⟩
  go_wp2_with fail
  refine (QR.out _).mono ?_
  rintro e w1 ⟨rfl, h1⟩
  obtain ⟨d1, d2, hsz, hb1⟩ := next2 (keep2 ⟨c1, c2, Below.refl _ _⟩ h1 (by (try dsimp only); omega) (by (try dsimp only); omega)) (by omega) hb0
  clear c1 c2 hb0 h1
  have c1 := d1
  clear d1
  have c2 := d2
  clear d2
  have hb0 := hb1
  clear hb1
  replace hs := Nat.le_trans hs hsz
  clear hsz
  go_wp2_with fail
  refine (shown_any _).mono ?_
  rintro e w2 ⟨rfl, h2⟩
  obtain ⟨d1, d2, hsz, hb1⟩ := next2 (keep2 ⟨c1, c2, Below.refl _ _⟩ h2 (by (try dsimp only); omega) (by (try dsimp only); omega)) (by omega) hb0
  clear c1 c2 hb0 h2
  have c1 := d1
  clear d1
  have c2 := d2
  clear d2
  have hb0 := hb1
  clear hb1
  replace hs := Nat.le_trans hs hsz
  clear hsz
  go_wp2_with fail
  refine (LEN.out _).mono ?_
  rintro e w3 ⟨rfl, h3⟩
  obtain ⟨d1, d2, hsz, hb1⟩ := next2 (keep2 ⟨c1, c2, Below.refl _ _⟩ h3 (by (try dsimp only); omega) (by (try dsimp only); omega)) (by omega) hb0
  clear c1 c2 hb0 h3
  have c1 := d1
  clear d1
  have c2 := d2
  clear d2
  have hb0 := hb1
  clear hb1
  replace hs := Nat.le_trans hs hsz
  clear hsz
  go_wp2_with fail
  refine (DOT.out _).mono ?_
  rintro e w4 ⟨rfl, h4⟩
  obtain ⟨d1, d2, hsz, hb1⟩ := next2 (keep2 ⟨c1, c2, Below.refl _ _⟩ h4 (by (try dsimp only); omega) (by (try dsimp only); omega)) (by omega) hb0
  clear c1 c2 hb0 h4
  have c1 := d1
  clear d1
  have c2 := d2
  clear d2
  have hb0 := hb1
  clear hb1
  replace hs := Nat.le_trans hs hsz
  clear hsz
  go_wp2_with fail
  refine (NEG.out _).mono ?_
  rintro e w5 ⟨rfl, h5⟩
  obtain ⟨d1, d2, hsz, hb1⟩ := next2 (keep2 ⟨c1, c2, Below.refl _ _⟩ h5 (by (try dsimp only); omega) (by (try dsimp only); omega)) (by omega) hb0
  clear c1 c2 hb0 h5
  have c1 := d1
  clear d1
  have c2 := d2
  clear d2
  have hb0 := hb1
  clear hb1
  replace hs := Nat.le_trans hs hsz
  clear hsz
  go_wp2_with fail
  refine (LEN2.out _).mono ?_
  rintro e w6 ⟨rfl, h6⟩
  go_wp2
  go_ret
  exact ⟨rfl, hb0.trans (h6.mono (by omega))⟩

theorem lens_b10 (x y : Int) (w : World) (na : nearB x y = true) (sx : x < 0) (sy : ¬ y < 0) :
    Calls Try.prog 6 #[P2 x y] w fun e w' => e = .returned (.bool true) ∧ Below w.heap.size w w' := by
  obtain ⟨hx, hy⟩ := nearB_iff.1 na
  obtain ⟨lb, gx, gy⟩ := near_bd x y na
  obtain ⟨f1, f2, f3, f4, f5⟩ := len_facts x y hx hy
  have s1 := sq_near x hx
  have s2 := sq_near y hy
  have hnx : -1073741824 ≤ -x ∧ -x ≤ 1073741824 := by omega
  have hny : -1073741824 ≤ -y ∧ -y ≤ 1073741824 := by omega
  have eln := len_neg x y
  obtain ⟨N, hN⟩ := Int.eq_ofNat_of_zero_le (show 0 ≤ x * x + y * y by omega)
  have QR0 := fun w => r4near_any x y w
  simp only [na] at QR0
  have QR := Lib.hid QR0
  clear QR0
  have hN2 : (x * x + y * y).toNat = N := by rw [hN]; rfl
  rw [hN2] at f1 f2
  obtain ⟨LN, hLN⟩ : ∃ LN, lenN x y = LN := ⟨_, rfl⟩
  obtain ⟨NX, hNX⟩ : ∃ NX, -x = NX := ⟨_, rfl⟩
  obtain ⟨NY, hNY⟩ : ∃ NY, -y = NY := ⟨_, rfl⟩
  have LEN0 := fun w => vlen_any x y w hx hy
  simp only [hLN] at LEN0
  have LEN := Lib.hid LEN0
  clear LEN0
  have DOT0 := fun w => vdot_any x y x y w hx hy hx hy
  simp only [hN] at DOT0
  have DOT := Lib.hid DOT0
  clear DOT0
  have NEG0 := fun w => vneg_any x y w gx gy
  simp only [hNX, hNY] at NEG0
  have NEG := Lib.hid NEG0
  clear NEG0
  have LEN20 := fun w => vlen_any (-x) (-y) w hnx hny
  simp only [eln] at LEN20
  simp only [hLN, hNX, hNY] at LEN20
  have LEN2 := Lib.hid LEN20
  clear LEN20
  rw [hLN] at f1 f2 f3 f4 f5 lb
  have m1 := Nat.mul_le_mul lb lb
  have m2 := Nat.mul_le_mul (Nat.succ_le_succ lb) (Nat.succ_le_succ lb)
  obtain ⟨P, hP⟩ : ∃ P, LN * LN = P := ⟨_, rfl⟩
  obtain ⟨Q, hQ⟩ : ∃ Q, (LN + 1) * (LN + 1) = Q := ⟨_, rfl⟩
  rw [hP] at f1 m1
  rw [hQ] at f2
  have m3 : Q ≤ 1518500250 * 1518500250 := by rw [← hQ]; exact m2
  have e1 : IntKind.i64.wrap ((LN : Int) * (LN : Int)) = (P : Int) := by rw [← Int.natCast_mul, hP]; exact IntWalk.i64_in _ (by omega)
  have e2 : IntKind.i64.wrap ((LN : Int) + 1) = (LN : Int) + 1 := IntWalk.i64_in _ (by omega)
  have e3 : IntKind.i64.wrap (((LN : Int) + 1) * ((LN : Int) + 1)) = (Q : Int) := by rw [show ((LN : Int) + 1) * ((LN : Int) + 1) = (Q : Int) from by rw [← hQ]; simp]; exact IntWalk.i64_in _ (by omega)
  have n1 : IntKind.i64.wrap (-x) = NX := by rw [hNX]; exact IntWalk.i64_in _ (by omega)
  have n2 : IntKind.i64.wrap (-y) = NY := by rw [hNY]; exact IntWalk.i64_in _ (by omega)
  have px : x < NX := by omega
  have py : NY ≤ y := by omega
  have px2 : x < NX := by omega
  have py2 : ¬ y < NY := by omega
  have mx : max x NX = NX := by omega
  have my : max y NY = y := by omega
  have qx : decide (x < NX) = true := by simp; omega
  have qy : decide (y < NY) = false := by simp; omega
  have b1 : 0 ≤ NX ∧ NX ≤ 1073741824 := by omega
  have b2 : 0 ≤ y ∧ y ≤ 1073741824 := by omega
  have e4 : IntKind.i64.wrap (NX + y) = NX + y := IntWalk.i64_in _ (by omega)
  have t1 : decide ((P : Int) ≤ (N : Int)) = true := by simp; omega
  have d1 : decide (P ≤ N) = true := by simp; omega
  have t2 : decide ((N : Int) < (Q : Int)) = true := by simp; omega
  have d2 : decide (N < Q) = true := by simp; omega
  have t3 : decide ((LN : Int) ≤ NX + y) = true := by simp; omega
  have t4 : decide (NX ≤ (LN : Int)) = true := by simp; omega
  have t5 : decide (y ≤ (LN : Int)) = true := by simp; omega
  have t6 : ((LN : Int) == (LN : Int)) = true := by simp
  clear f1 f2 f3 f4 f5 s1 s2 eln hN hN2 hLN hNX hNY hP hQ m1 m2 m3 hnx hny na
  go_enter Try.func6, Try.ntmps6
  go_upto_region 1 with fail
  refine any_gen (fun w' => w'.cell? ⟨w.heap.size, 0, none⟩ = some (.int .i64 (x)) ∧ w'.cell? ⟨w.heap.size, 1, none⟩ = some (.int .i64 (y)) ∧ w.heap.size + 1 ≤ w'.heap.size ∧ Below w.heap.size w w') ⟨by simp [go_sem], by simp [go_sem], ?siz, ?bel⟩ ?_
  case siz => simp
  case bel => repeat (first | exact Below.refl _ _ | refine below_dN ?_ _ | refine Below.setCell ?_ (by simp; try omega) _ | refine Below.alloc ?_ (by simp; try omega) _)
  rintro w0 ⟨c1, c2, hs, hb0⟩
  go_wp2_with fail
  refine (QR.out _).mono ?_
  rintro e w1 ⟨rfl, h1⟩
  obtain ⟨d1, d2, hsz, hb1⟩ := next2 (keep2 ⟨c1, c2, Below.refl _ _⟩ h1 (by (try dsimp only); omega) (by (try dsimp only); omega)) (by omega) hb0
  clear c1 c2 hb0 h1
  have c1 := d1
  clear d1
  have c2 := d2
  clear d2
  have hb0 := hb1
  clear hb1
  replace hs := Nat.le_trans hs hsz
  clear hsz
  go_wp2_with fail
  refine (shown_any _).mono ?_
  rintro e w2 ⟨rfl, h2⟩
  obtain ⟨d1, d2, hsz, hb1⟩ := next2 (keep2 ⟨c1, c2, Below.refl _ _⟩ h2 (by (try dsimp only); omega) (by (try dsimp only); omega)) (by omega) hb0
  clear c1 c2 hb0 h2
  have c1 := d1
  clear d1
  have c2 := d2
  clear d2
  have hb0 := hb1
  clear hb1
  replace hs := Nat.le_trans hs hsz
  clear hsz
  go_wp2_with fail
  refine (LEN.out _).mono ?_
  rintro e w3 ⟨rfl, h3⟩
  obtain ⟨d1, d2, hsz, hb1⟩ := next2 (keep2 ⟨c1, c2, Below.refl _ _⟩ h3 (by (try dsimp only); omega) (by (try dsimp only); omega)) (by omega) hb0
  clear c1 c2 hb0 h3
  have c1 := d1
  clear d1
  have c2 := d2
  clear d2
  have hb0 := hb1
  clear hb1
  replace hs := Nat.le_trans hs hsz
  clear hsz
  go_wp2_with fail
  refine (DOT.out _).mono ?_
  rintro e w4 ⟨rfl, h4⟩
  obtain ⟨d1, d2, hsz, hb1⟩ := next2 (keep2 ⟨c1, c2, Below.refl _ _⟩ h4 (by (try dsimp only); omega) (by (try dsimp only); omega)) (by omega) hb0
  clear c1 c2 hb0 h4
  have c1 := d1
  clear d1
  have c2 := d2
  clear d2
  have hb0 := hb1
  clear hb1
  replace hs := Nat.le_trans hs hsz
  clear hsz
  go_wp2_with fail
  refine (NEG.out _).mono ?_
  rintro e w5 ⟨rfl, h5⟩
  obtain ⟨d1, d2, hsz, hb1⟩ := next2 (keep2 ⟨c1, c2, Below.refl _ _⟩ h5 (by (try dsimp only); omega) (by (try dsimp only); omega)) (by omega) hb0
  clear c1 c2 hb0 h5
  have c1 := d1
  clear d1
  have c2 := d2
  clear d2
  have hb0 := hb1
  clear hb1
  replace hs := Nat.le_trans hs hsz
  clear hsz
  go_wp2_with fail
  refine (LEN2.out _).mono ?_
  rintro e w6 ⟨rfl, h6⟩
  go_wp2
  go_ret
  exact ⟨rfl, hb0.trans (h6.mono (by omega))⟩

theorem lens_b11 (x y : Int) (w : World) (na : nearB x y = true) (sx : x < 0) (sy : y < 0) :
    Calls Try.prog 6 #[P2 x y] w fun e w' => e = .returned (.bool true) ∧ Below w.heap.size w w' := by
  obtain ⟨hx, hy⟩ := nearB_iff.1 na
  obtain ⟨lb, gx, gy⟩ := near_bd x y na
  obtain ⟨f1, f2, f3, f4, f5⟩ := len_facts x y hx hy
  have s1 := sq_near x hx
  have s2 := sq_near y hy
  have hnx : -1073741824 ≤ -x ∧ -x ≤ 1073741824 := by omega
  have hny : -1073741824 ≤ -y ∧ -y ≤ 1073741824 := by omega
  have eln := len_neg x y
  obtain ⟨N, hN⟩ := Int.eq_ofNat_of_zero_le (show 0 ≤ x * x + y * y by omega)
  have QR0 := fun w => r4near_any x y w
  simp only [na] at QR0
  have QR := Lib.hid QR0
  clear QR0
  have hN2 : (x * x + y * y).toNat = N := by rw [hN]; rfl
  rw [hN2] at f1 f2
  obtain ⟨LN, hLN⟩ : ∃ LN, lenN x y = LN := ⟨_, rfl⟩
  obtain ⟨NX, hNX⟩ : ∃ NX, -x = NX := ⟨_, rfl⟩
  obtain ⟨NY, hNY⟩ : ∃ NY, -y = NY := ⟨_, rfl⟩
  have LEN0 := fun w => vlen_any x y w hx hy
  simp only [hLN] at LEN0
  have LEN := Lib.hid LEN0
  clear LEN0
  have DOT0 := fun w => vdot_any x y x y w hx hy hx hy
  simp only [hN] at DOT0
  have DOT := Lib.hid DOT0
  clear DOT0
  have NEG0 := fun w => vneg_any x y w gx gy
  simp only [hNX, hNY] at NEG0
  have NEG := Lib.hid NEG0
  clear NEG0
  have LEN20 := fun w => vlen_any (-x) (-y) w hnx hny
  simp only [eln] at LEN20
  simp only [hLN, hNX, hNY] at LEN20
  have LEN2 := Lib.hid LEN20
  clear LEN20
  rw [hLN] at f1 f2 f3 f4 f5 lb
  have m1 := Nat.mul_le_mul lb lb
  have m2 := Nat.mul_le_mul (Nat.succ_le_succ lb) (Nat.succ_le_succ lb)
  obtain ⟨P, hP⟩ : ∃ P, LN * LN = P := ⟨_, rfl⟩
  obtain ⟨Q, hQ⟩ : ∃ Q, (LN + 1) * (LN + 1) = Q := ⟨_, rfl⟩
  rw [hP] at f1 m1
  rw [hQ] at f2
  have m3 : Q ≤ 1518500250 * 1518500250 := by rw [← hQ]; exact m2
  have e1 : IntKind.i64.wrap ((LN : Int) * (LN : Int)) = (P : Int) := by rw [← Int.natCast_mul, hP]; exact IntWalk.i64_in _ (by omega)
  have e2 : IntKind.i64.wrap ((LN : Int) + 1) = (LN : Int) + 1 := IntWalk.i64_in _ (by omega)
  have e3 : IntKind.i64.wrap (((LN : Int) + 1) * ((LN : Int) + 1)) = (Q : Int) := by rw [show ((LN : Int) + 1) * ((LN : Int) + 1) = (Q : Int) from by rw [← hQ]; simp]; exact IntWalk.i64_in _ (by omega)
  have n1 : IntKind.i64.wrap (-x) = NX := by rw [hNX]; exact IntWalk.i64_in _ (by omega)
  have n2 : IntKind.i64.wrap (-y) = NY := by rw [hNY]; exact IntWalk.i64_in _ (by omega)
  have px : x < NX := by omega
  have py : y < NY := by omega
  have px2 : x < NX := by omega
  have py2 : y < NY := by omega
  have mx : max x NX = NX := by omega
  have my : max y NY = NY := by omega
  have qx : decide (x < NX) = true := by simp; omega
  have qy : decide (y < NY) = true := by simp; omega
  have b1 : 0 ≤ NX ∧ NX ≤ 1073741824 := by omega
  have b2 : 0 ≤ NY ∧ NY ≤ 1073741824 := by omega
  have e4 : IntKind.i64.wrap (NX + NY) = NX + NY := IntWalk.i64_in _ (by omega)
  have t1 : decide ((P : Int) ≤ (N : Int)) = true := by simp; omega
  have d1 : decide (P ≤ N) = true := by simp; omega
  have t2 : decide ((N : Int) < (Q : Int)) = true := by simp; omega
  have d2 : decide (N < Q) = true := by simp; omega
  have t3 : decide ((LN : Int) ≤ NX + NY) = true := by simp; omega
  have t4 : decide (NX ≤ (LN : Int)) = true := by simp; omega
  have t5 : decide (NY ≤ (LN : Int)) = true := by simp; omega
  have t6 : ((LN : Int) == (LN : Int)) = true := by simp
  clear f1 f2 f3 f4 f5 s1 s2 eln hN hN2 hLN hNX hNY hP hQ m1 m2 m3 hnx hny na
  go_enter Try.func6, Try.ntmps6
  go_upto_region 1 with fail
  refine any_gen (fun w' => w'.cell? ⟨w.heap.size, 0, none⟩ = some (.int .i64 (x)) ∧ w'.cell? ⟨w.heap.size, 1, none⟩ = some (.int .i64 (y)) ∧ w.heap.size + 1 ≤ w'.heap.size ∧ Below w.heap.size w w') ⟨by simp [go_sem], by simp [go_sem], ?siz, ?bel⟩ ?_
  case siz => simp
  case bel => repeat (first | exact Below.refl _ _ | refine below_dN ?_ _ | refine Below.setCell ?_ (by simp; try omega) _ | refine Below.alloc ?_ (by simp; try omega) _)
  rintro w0 ⟨c1, c2, hs, hb0⟩
  go_wp2_with fail
  refine (QR.out _).mono ?_
  rintro e w1 ⟨rfl, h1⟩
  obtain ⟨d1, d2, hsz, hb1⟩ := next2 (keep2 ⟨c1, c2, Below.refl _ _⟩ h1 (by (try dsimp only); omega) (by (try dsimp only); omega)) (by omega) hb0
  clear c1 c2 hb0 h1
  have c1 := d1
  clear d1
  have c2 := d2
  clear d2
  have hb0 := hb1
  clear hb1
  replace hs := Nat.le_trans hs hsz
  clear hsz
  go_wp2_with fail
  refine (shown_any _).mono ?_
  rintro e w2 ⟨rfl, h2⟩
  obtain ⟨d1, d2, hsz, hb1⟩ := next2 (keep2 ⟨c1, c2, Below.refl _ _⟩ h2 (by (try dsimp only); omega) (by (try dsimp only); omega)) (by omega) hb0
  clear c1 c2 hb0 h2
  have c1 := d1
  clear d1
  have c2 := d2
  clear d2
  have hb0 := hb1
  clear hb1
  replace hs := Nat.le_trans hs hsz
  clear hsz
  go_wp2_with fail
  refine (LEN.out _).mono ?_
  rintro e w3 ⟨rfl, h3⟩
  obtain ⟨d1, d2, hsz, hb1⟩ := next2 (keep2 ⟨c1, c2, Below.refl _ _⟩ h3 (by (try dsimp only); omega) (by (try dsimp only); omega)) (by omega) hb0
  clear c1 c2 hb0 h3
  have c1 := d1
  clear d1
  have c2 := d2
  clear d2
  have hb0 := hb1
  clear hb1
  replace hs := Nat.le_trans hs hsz
  clear hsz
  go_wp2_with fail
  refine (DOT.out _).mono ?_
  rintro e w4 ⟨rfl, h4⟩
  obtain ⟨d1, d2, hsz, hb1⟩ := next2 (keep2 ⟨c1, c2, Below.refl _ _⟩ h4 (by (try dsimp only); omega) (by (try dsimp only); omega)) (by omega) hb0
  clear c1 c2 hb0 h4
  have c1 := d1
  clear d1
  have c2 := d2
  clear d2
  have hb0 := hb1
  clear hb1
  replace hs := Nat.le_trans hs hsz
  clear hsz
  go_wp2_with fail
  refine (NEG.out _).mono ?_
  rintro e w5 ⟨rfl, h5⟩
  obtain ⟨d1, d2, hsz, hb1⟩ := next2 (keep2 ⟨c1, c2, Below.refl _ _⟩ h5 (by (try dsimp only); omega) (by (try dsimp only); omega)) (by omega) hb0
  clear c1 c2 hb0 h5
  have c1 := d1
  clear d1
  have c2 := d2
  clear d2
  have hb0 := hb1
  clear hb1
  replace hs := Nat.le_trans hs hsz
  clear hsz
  go_wp2_with fail
  refine (LEN2.out _).mono ?_
  rintro e w6 ⟨rfl, h6⟩
  go_wp2
  go_ret
  exact ⟨rfl, hb0.trans (h6.mono (by omega))⟩

theorem walk_VectorLens (x y : Int) (w : World) :
    Calls Try.prog 6 #[P2 x y] w fun e w' => e = .returned (.bool true) ∧ Below w.heap.size w w' := by
  rcases na : nearB x y with _ | _
  · exact lens_a x y w na
  · by_cases sx : x < 0
    · by_cases sy : y < 0
      · exact lens_b11 x y w na sx sy
      · exact lens_b10 x y w na sx sy
    · by_cases sy : y < 0
      · exact lens_b01 x y w na sx sy
      · exact lens_b00 x y w na sx sy
end Go.Proofs.Ytmdhlkdeadfgdaa
