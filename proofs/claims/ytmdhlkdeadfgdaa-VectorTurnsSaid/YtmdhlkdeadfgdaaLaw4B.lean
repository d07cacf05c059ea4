/- The walk of VectorTurns. -/
import Derived.Test.YtmdhlkdeadfgdaaLaw4S
namespace Go.Proofs.Ytmdhlkdeadfgdaa
open Go.RowKit
set_option linter.unusedVariables false
set_option linter.unusedSimpArgs false
set_option maxHeartbeats 4000000
set_option maxRecDepth 100000

theorem turn_cross (x y u v : Int) : -(u * y - v * x) = x * v - y * u := by rw [Int.mul_comm u y, Int.mul_comm v x]; omega
theorem turn_dot (x y : Int) : x * (-y) + y * x = 0 := by rw [Int.mul_neg, Int.mul_comm y x]; omega
theorem turn_len (x y : Int) : lenN (-y) x = lenN x y := by unfold lenN; rw [Int.neg_mul_neg, Int.add_comm]
theorem turn_ld (x y u v : Int) : -y * u + x * v = x * v - y * u := by rw [Int.neg_mul]; omega
theorem turn_cl (x y : Int) : x * x - y * (-y) = x * x + y * y := by rw [Int.mul_neg]; omega

theorem turns_a (x y u v : Int) (w : World) (na : nearB x y = false) :
    Calls Try.prog 4 #[P2 x y, P2 u v] w fun e w' => e = .returned (.bool true) ∧ Below w.heap.size w w' := by
  have QR0 := fun w => r4near_any x y w
  simp only [na] at QR0
  have QR := Lib.hid QR0
  clear QR0
  go_enter Try.func4, Try.ntmps4
  go_upto_region 1 with fail
  refine any_gen (fun w' => w'.cell? ⟨w.heap.size, 0, none⟩ = some (.int .i64 (x)) ∧ w'.cell? ⟨w.heap.size, 1, none⟩ = some (.int .i64 (y)) ∧ w'.cell? ⟨w.heap.size + 1, 0, none⟩ = some (.int .i64 (u)) ∧ w'.cell? ⟨w.heap.size + 1, 1, none⟩ = some (.int .i64 (v)) ∧ w.heap.size + 1 + 1 ≤ w'.heap.size ∧ Below w.heap.size w w') ⟨by simp [go_sem], by simp [go_sem], by simp [go_sem], by simp [go_sem], ?siz, ?bel⟩ ?_
  case siz => simp
  case bel => repeat (first | exact Below.refl _ _ | refine below_dN ?_ _ | refine Below.setCell ?_ (by simp; try omega) _ | refine Below.alloc ?_ (by simp; try omega) _)
  rintro w0 ⟨c1, c2, c3, c4, hs, hb0⟩
  go_wp2_with fail
  refine (QR.out _).mono ?_
  rintro e w1 ⟨rfl, h1⟩
  obtain ⟨d1, d2, d3, d4, hsz, hb1⟩ := next4 (keep4 ⟨c1, c2, c3, c4, Below.refl _ _⟩ h1 (by dsimp only; omega) (by dsimp only; omega) (by dsimp only; omega) (by dsimp only; omega)) (by omega) hb0
  clear c1 c2 c3 c4 hb0 h1
  have c1 := d1
  clear d1
  have c2 := d2
  clear d2
  have c3 := d3
  clear d3
  have c4 := d4
  clear d4
  have hb0 := hb1
  clear hb1
  replace hs := Nat.le_trans hs hsz
  clear hsz
  go_wp2_with fail
  refine (shown_any _).mono ?_
  rintro e w2 ⟨rfl, h2⟩
  obtain ⟨d1, d2, d3, d4, hsz, hb1⟩ := next4 (keep4 ⟨c1, c2, c3, c4, Below.refl _ _⟩ h2 (by dsimp only; omega) (by dsimp only; omega) (by dsimp only; omega) (by dsimp only; omega)) (by omega) hb0
  clear c1 c2 c3 c4 hb0 h2
  have c1 := d1
  clear d1
  have c2 := d2
  clear d2
  have c3 := d3
  clear d3
  have c4 := d4
  clear d4
  have hb0 := hb1
  clear hb1
  replace hs := Nat.le_trans hs hsz
  clear hsz
  go_wp2
  go_ret
  exact ⟨rfl, hb0⟩

theorem turns_b (x y u v : Int) (w : World) (na : nearB x y = true) (nb : nearB u v = false) :
    Calls Try.prog 4 #[P2 x y, P2 u v] w fun e w' => e = .returned (.bool true) ∧ Below w.heap.size w w' := by
  have QR0 := fun w => r4near_any x y w
  simp only [na] at QR0
  have QR := Lib.hid QR0
  clear QR0
  have QB0 := fun w => r4near_any u v w
  simp only [nb] at QB0
  have QB := Lib.hid QB0
  clear QB0
  go_enter Try.func4, Try.ntmps4
  go_upto_region 1 with fail
  refine any_gen (fun w' => w'.cell? ⟨w.heap.size, 0, none⟩ = some (.int .i64 (x)) ∧ w'.cell? ⟨w.heap.size, 1, none⟩ = some (.int .i64 (y)) ∧ w'.cell? ⟨w.heap.size + 1, 0, none⟩ = some (.int .i64 (u)) ∧ w'.cell? ⟨w.heap.size + 1, 1, none⟩ = some (.int .i64 (v)) ∧ w.heap.size + 1 + 1 ≤ w'.heap.size ∧ Below w.heap.size w w') ⟨by simp [go_sem], by simp [go_sem], by simp [go_sem], by simp [go_sem], ?siz, ?bel⟩ ?_
  case siz => simp
  case bel => repeat (first | exact Below.refl _ _ | refine below_dN ?_ _ | refine Below.setCell ?_ (by simp; try omega) _ | refine Below.alloc ?_ (by simp; try omega) _)
  rintro w0 ⟨c1, c2, c3, c4, hs, hb0⟩
  go_wp2_with fail
  refine (QR.out _).mono ?_
  rintro e w1 ⟨rfl, h1⟩
  obtain ⟨d1, d2, d3, d4, hsz, hb1⟩ := next4 (keep4 ⟨c1, c2, c3, c4, Below.refl _ _⟩ h1 (by dsimp only; omega) (by dsimp only; omega) (by dsimp only; omega) (by dsimp only; omega)) (by omega) hb0
  clear c1 c2 c3 c4 hb0 h1
  have c1 := d1
  clear d1
  have c2 := d2
  clear d2
  have c3 := d3
  clear d3
  have c4 := d4
  clear d4
  have hb0 := hb1
  clear hb1
  replace hs := Nat.le_trans hs hsz
  clear hsz
  go_wp2_with fail
  refine (QB.out _).mono ?_
  rintro e w2 ⟨rfl, h2⟩
  obtain ⟨d1, d2, d3, d4, hsz, hb1⟩ := next4 (keep4 ⟨c1, c2, c3, c4, Below.refl _ _⟩ h2 (by dsimp only; omega) (by dsimp only; omega) (by dsimp only; omega) (by dsimp only; omega)) (by omega) hb0
  clear c1 c2 c3 c4 hb0 h2
  have c1 := d1
  clear d1
  have c2 := d2
  clear d2
  have c3 := d3
  clear d3
  have c4 := d4
  clear d4
  have hb0 := hb1
  clear hb1
  replace hs := Nat.le_trans hs hsz
  clear hsz
  go_wp2_with fail
  refine (shown_any _).mono ?_
  rintro e w3 ⟨rfl, h3⟩
  obtain ⟨d1, d2, d3, d4, hsz, hb1⟩ := next4 (keep4 ⟨c1, c2, c3, c4, Below.refl _ _⟩ h3 (by dsimp only; omega) (by dsimp only; omega) (by dsimp only; omega) (by dsimp only; omega)) (by omega) hb0
  clear c1 c2 c3 c4 hb0 h3
  have c1 := d1
  clear d1
  have c2 := d2
  clear d2
  have c3 := d3
  clear d3
  have c4 := d4
  clear d4
  have hb0 := hb1
  clear hb1
  replace hs := Nat.le_trans hs hsz
  clear hsz
  go_wp2
  go_ret
  exact ⟨rfl, hb0⟩

theorem turns_st (x y u v : Int) (w : World) (na : nearB x y = true) (nb : nearB u v = true) (ns : nearB (x + u) (y + v) = true) :
    Calls Try.prog 4 #[P2 x y, P2 u v] w fun e w' => e = .returned (.bool true) ∧ Below w.heap.size w w' := by
  obtain ⟨hx, hy⟩ := nearB_iff.1 na
  obtain ⟨hu, hv⟩ := nearB_iff.1 nb
  have QR0 := fun w => r4near_any x y w
  simp only [na] at QR0
  have QR := Lib.hid QR0
  clear QR0
  have QB0 := fun w => r4near_any u v w
  simp only [nb] at QB0
  have QB := Lib.hid QB0
  clear QB0
  have QS0 := fun w => r4near_any (x + u) (y + v) w
  simp only [ns] at QS0
  have QS := Lib.hid QS0
  clear QS0
  have gx : -2147483648 ≤ x ∧ x ≤ 2147483648 := by omega
  have gy : -2147483648 ≤ y ∧ y ≤ 2147483648 := by omega
  have gu : -2147483648 ≤ u ∧ u ≤ 2147483648 := by omega
  have gv : -2147483648 ≤ v ∧ v ≤ 2147483648 := by omega
  have gny : -2147483648 ≤ -y ∧ -y ≤ 2147483648 := by omega
  have hny : -1073741824 ≤ -y ∧ -y ≤ 1073741824 := by omega
  have hnx : -1073741824 ≤ -x ∧ -x ≤ 1073741824 := by omega
  have gax : -2147483648 ≤ x + u ∧ x + u ≤ 2147483648 := by omega
  have gay : -2147483648 ≤ y + v ∧ y + v ≤ 2147483648 := by omega
  have p1 := prod_30 x v hx hv
  have p2 := prod_30 y u hy hu
  have s1 := sq_near x hx
  have s2 := sq_near y hy
  have e1 := turn_cross x y u v
  have e2 := turn_dot x y
  have e3 := turn_len x y
  have e4 := turn_ld x y u v
  have e5 := turn_cl x y
  have e6 : x + u - u = x := by omega
  have e7 : y + v - v = y := by omega
  obtain ⟨C, hC⟩ : ∃ C, x * v - y * u = C := ⟨_, rfl⟩
  obtain ⟨C2, hC2⟩ : ∃ C2, u * y - v * x = C2 := ⟨_, rfl⟩
  obtain ⟨LN, hLN⟩ : ∃ LN, lenN x y = LN := ⟨_, rfl⟩
  obtain ⟨DD, hDD⟩ : ∃ DD, x * x + y * y = DD := ⟨_, rfl⟩
  obtain ⟨AX, hAX⟩ : ∃ AX, x + u = AX := ⟨_, rfl⟩
  obtain ⟨AY, hAY⟩ : ∃ AY, y + v = AY := ⟨_, rfl⟩
  obtain ⟨NY, hNY⟩ : ∃ NY, -y = NY := ⟨_, rfl⟩
  obtain ⟨NX, hNX⟩ : ∃ NX, -x = NX := ⟨_, rfl⟩
  rw [hC2, hC] at e1
  have e8 : IntKind.i64.wrap (-C2) = C := by rw [e1, ← hC]; exact IntWalk.i64_in _ (by omega)
  have e9 : IntKind.i64.wrap (-C2) = -C2 := by rw [e8, e1]
  have LEFT0 := fun w => vleft_any x y w gx gy
  simp only [hNY] at LEFT0
  have LEFT := Lib.hid LEFT0
  clear LEFT0
  have LEFT20 := fun w => vleft_any (-y) x w gny gx
  simp only [hNX, hNY] at LEFT20
  have LEFT2 := Lib.hid LEFT20
  clear LEFT20
  have NEG0 := fun w => vneg_any x y w gx gy
  simp only [hNX, hNY] at NEG0
  have NEG := Lib.hid NEG0
  clear NEG0
  have ADD0 := fun w => vadd_any x y u v w gx gy gu gv
  simp only [hAX, hAY] at ADD0
  have ADD := Lib.hid ADD0
  clear ADD0
  have SUB0 := fun w => vsub_any (x + u) (y + v) u v w gax gay gu gv
  simp only [e6, e7] at SUB0
  simp only [hAX, hAY] at SUB0
  have SUB := Lib.hid SUB0
  clear SUB0
  have CR10 := fun w => vcross_any x y u v w hx hy hu hv
  simp only [hC] at CR10
  have CR1 := Lib.hid CR10
  clear CR10
  have CR20 := fun w => vcross_any u v x y w hu hv hx hy
  simp only [hC2] at CR20
  have CR2 := Lib.hid CR20
  clear CR20
  have CR30 := fun w => vcross_any x y (-y) x w hx hy hny hx
  simp only [e5] at CR30
  simp only [hDD, hNY] at CR30
  have CR3 := Lib.hid CR30
  clear CR30
  have DO10 := fun w => vdot_any x y (-y) x w hx hy hny hx
  simp only [e2] at DO10
  simp only [hNY] at DO10
  have DO1 := Lib.hid DO10
  clear DO10
  have DO20 := fun w => vdot_any (-y) x u v w hny hx hu hv
  simp only [e4] at DO20
  simp only [hC, hNY] at DO20
  have DO2 := Lib.hid DO20
  clear DO20
  have DO30 := fun w => vdot_any x y x y w hx hy hx hy
  simp only [hDD] at DO30
  have DO3 := Lib.hid DO30
  clear DO30
  have LEN10 := fun w => vlen_any (-y) x w hny hx
  simp only [e3] at LEN10
  simp only [hLN, hNY] at LEN10
  have LEN1 := Lib.hid LEN10
  clear LEN10
  have LEN20 := fun w => vlen_any x y w hx hy
  simp only [hLN] at LEN20
  have LEN2 := Lib.hid LEN20
  clear LEN20
  simp only [hAX, hAY] at QS
  have eC := Lib.hid e1
  have q1 : (C == C) = true := by simp
  have q2 : (x != x) = false := by simp
  have q3 : (y != y) = false := by simp
  have q4 : ((LN : Int) == (LN : Int)) = true := by simp
  have q5 : (DD == DD) = true := by simp
  clear hx hy hu hv gx gy gu gv gny hny hnx gax gay p1 p2 s1 s2 e1 e2 e3 e4 e5 e6 e7 hC hC2 hLN hDD hAX hAY hNY hNX na nb ns e9
  go_enter Try.func4, Try.ntmps4
  go_upto_region 1 with fail
  refine any_gen (fun w' => w'.cell? ⟨w.heap.size, 0, none⟩ = some (.int .i64 (x)) ∧ w'.cell? ⟨w.heap.size, 1, none⟩ = some (.int .i64 (y)) ∧ w'.cell? ⟨w.heap.size + 1, 0, none⟩ = some (.int .i64 (u)) ∧ w'.cell? ⟨w.heap.size + 1, 1, none⟩ = some (.int .i64 (v)) ∧ w.heap.size + 1 + 1 ≤ w'.heap.size ∧ Below w.heap.size w w') ⟨by simp [go_sem], by simp [go_sem], by simp [go_sem], by simp [go_sem], ?siz, ?bel⟩ ?_
  case siz => simp
  case bel => repeat (first | exact Below.refl _ _ | refine below_dN ?_ _ | refine Below.setCell ?_ (by simp; try omega) _ | refine Below.alloc ?_ (by simp; try omega) _)
  rintro w0 ⟨c1, c2, c3, c4, hs, hb0⟩
  go_wp2_with fail
  refine (QR.out _).mono ?_
  rintro e w1 ⟨rfl, h1⟩
  obtain ⟨d1, d2, d3, d4, hsz, hb1⟩ := next4 (keep4 ⟨c1, c2, c3, c4, Below.refl _ _⟩ h1 (by dsimp only; omega) (by dsimp only; omega) (by dsimp only; omega) (by dsimp only; omega)) (by omega) hb0
  clear c1 c2 c3 c4 hb0 h1
  have c1 := d1
  clear d1
  have c2 := d2
  clear d2
  have c3 := d3
  clear d3
  have c4 := d4
  clear d4
  have hb0 := hb1
  clear hb1
  replace hs := Nat.le_trans hs hsz
  clear hsz
  go_wp2_with fail
  refine (QB.out _).mono ?_
  rintro e w2 ⟨rfl, h2⟩
  obtain ⟨d1, d2, d3, d4, hsz, hb1⟩ := next4 (keep4 ⟨c1, c2, c3, c4, Below.refl _ _⟩ h2 (by dsimp only; omega) (by dsimp only; omega) (by dsimp only; omega) (by dsimp only; omega)) (by omega) hb0
  clear c1 c2 c3 c4 hb0 h2
  have c1 := d1
  clear d1
  have c2 := d2
  clear d2
  have c3 := d3
  clear d3
  have c4 := d4
  clear d4
  have hb0 := hb1
  clear hb1
  replace hs := Nat.le_trans hs hsz
  clear hsz
  go_wp2_with fail
  refine (shown_any _).mono ?_
  rintro e w3 ⟨rfl, h3⟩
  obtain ⟨d1, d2, d3, d4, hsz, hb1⟩ := next4 (keep4 ⟨c1, c2, c3, c4, Below.refl _ _⟩ h3 (by dsimp only; omega) (by dsimp only; omega) (by dsimp only; omega) (by dsimp only; omega)) (by omega) hb0
  clear c1 c2 c3 c4 hb0 h3
  have c1 := d1
  clear d1
  have c2 := d2
  clear d2
  have c3 := d3
  clear d3
  have c4 := d4
  clear d4
  have hb0 := hb1
  clear hb1
  replace hs := Nat.le_trans hs hsz
  clear hsz
  go_wp2_with fail
  refine (LEFT.out _).mono ?_
  rintro e w4 ⟨rfl, h4⟩
  obtain ⟨d1, d2, d3, d4, hsz, hb1⟩ := next4 (keep4 ⟨c1, c2, c3, c4, Below.refl _ _⟩ h4 (by dsimp only; omega) (by dsimp only; omega) (by dsimp only; omega) (by dsimp only; omega)) (by omega) hb0
  clear c1 c2 c3 c4 hb0 h4
  have c1 := d1
  clear d1
  have c2 := d2
  clear d2
  have c3 := d3
  clear d3
  have c4 := d4
  clear d4
  have hb0 := hb1
  clear hb1
  replace hs := Nat.le_trans hs hsz
  clear hsz
  go_upto_region 4 with fail
  refine any_gen (fun z => z.cell? ⟨w.heap.size, 0, none⟩ = some (.int .i64 (x)) ∧ z.cell? ⟨w.heap.size, 1, none⟩ = some (.int .i64 (y)) ∧ z.cell? ⟨w.heap.size + 1, 0, none⟩ = some (.int .i64 (u)) ∧ z.cell? ⟨w.heap.size + 1, 1, none⟩ = some (.int .i64 (v)) ∧ z.cell? ⟨w4.heap.size, 0, none⟩ = some (.int .i64 (NY)) ∧ z.cell? ⟨w4.heap.size, 1, none⟩ = some (.int .i64 (x)) ∧ w4.heap.size + 1 ≤ z.heap.size ∧ Below w.heap.size w z) ⟨(World.cell?_alloc_old _ _ _ (by dsimp only; omega)).trans c1, (World.cell?_alloc_old _ _ _ (by dsimp only; omega)).trans c2, (World.cell?_alloc_old _ _ _ (by dsimp only; omega)).trans c3, (World.cell?_alloc_old _ _ _ (by dsimp only; omega)).trans c4, by simp, by simp, by simp, hb0.alloc (by first | omega | exact hb0.size) _⟩ ?_
  clear c1 c2 c3 c4 hb0
  rintro w5 ⟨c1, c2, c3, c4, c5, c6, hsz, hb0⟩
  replace hs := Nat.le_trans hs (Nat.le_trans (Nat.le_succ _) hsz)
  have hg := hsz
  clear hsz
  go_wp2_with fail
  refine (ADD.out _).mono ?_
  rintro e w6 ⟨rfl, h5⟩
  obtain ⟨d1, d2, d3, d4, d5, d6, hsz, hb1⟩ := next6 (keep6 ⟨c1, c2, c3, c4, c5, c6, Below.refl _ _⟩ h5 (by dsimp only; omega) (by dsimp only; omega) (by dsimp only; omega) (by dsimp only; omega) (by dsimp only; omega) (by dsimp only; omega)) (by omega) hb0
  clear c1 c2 c3 c4 c5 c6 hb0 h5
  have c1 := d1
  clear d1
  have c2 := d2
  clear d2
  have c3 := d3
  clear d3
  have c4 := d4
  clear d4
  have c5 := d5
  clear d5
  have c6 := d6
  clear d6
  have hb0 := hb1
  clear hb1
  replace hs := Nat.le_trans hs hsz
  replace hg := Nat.le_trans hg hsz
  clear hsz
  go_upto_region 5 with fail
  refine any_gen (fun z => z.cell? ⟨w.heap.size, 0, none⟩ = some (.int .i64 (x)) ∧ z.cell? ⟨w.heap.size, 1, none⟩ = some (.int .i64 (y)) ∧ z.cell? ⟨w.heap.size + 1, 0, none⟩ = some (.int .i64 (u)) ∧ z.cell? ⟨w.heap.size + 1, 1, none⟩ = some (.int .i64 (v)) ∧ z.cell? ⟨w4.heap.size, 0, none⟩ = some (.int .i64 (NY)) ∧ z.cell? ⟨w4.heap.size, 1, none⟩ = some (.int .i64 (x)) ∧ z.cell? ⟨w6.heap.size, 0, none⟩ = some (.int .i64 (AX)) ∧ z.cell? ⟨w6.heap.size, 1, none⟩ = some (.int .i64 (AY)) ∧ w6.heap.size + 1 ≤ z.heap.size ∧ Below w.heap.size w z) ⟨(World.cell?_alloc_old _ _ _ (by dsimp only; omega)).trans c1, (World.cell?_alloc_old _ _ _ (by dsimp only; omega)).trans c2, (World.cell?_alloc_old _ _ _ (by dsimp only; omega)).trans c3, (World.cell?_alloc_old _ _ _ (by dsimp only; omega)).trans c4, (World.cell?_alloc_old _ _ _ (by dsimp only; omega)).trans c5, (World.cell?_alloc_old _ _ _ (by dsimp only; omega)).trans c6, by simp, by simp, by simp, hb0.alloc (by first | omega | exact hb0.size) _⟩ ?_
  clear c1 c2 c3 c4 c5 c6 hb0
  rintro w7 ⟨c1, c2, c3, c4, c5, c6, c7, c8, hsz, hb0⟩
  replace hs := Nat.le_trans hs (Nat.le_trans (Nat.le_succ _) hsz)
  replace hg := Nat.le_trans hg (Nat.le_trans (Nat.le_succ _) hsz)
  have hk := hsz
  clear hsz
  first | (go_region_held3 (fun w' => w'.cell? ⟨w.heap.size, 0, none⟩ = some (.int .i64 (x)) ∧ w'.cell? ⟨w.heap.size, 1, none⟩ = some (.int .i64 (y)) ∧ w'.cell? ⟨w.heap.size + 1, 0, none⟩ = some (.int .i64 (u)) ∧ w'.cell? ⟨w.heap.size + 1, 1, none⟩ = some (.int .i64 (v)) ∧ w'.cell? ⟨w4.heap.size, 0, none⟩ = some (.int .i64 (NY)) ∧ w'.cell? ⟨w4.heap.size, 1, none⟩ = some (.int .i64 (x)) ∧ w'.cell? ⟨w6.heap.size, 0, none⟩ = some (.int .i64 (AX)) ∧ w'.cell? ⟨w6.heap.size, 1, none⟩ = some (.int .i64 (AY)) ∧ Below w7.heap.size w7 w') ((first | assumption | exact ⟨by simp [*], by simp [*], by simp [*], by simp [*], by simp [*], by simp [*], by simp [*], by simp [*], (Below.refl _ _).drew⟩ | exact keep8 ‹_› hb (by dsimp only; omega) (by dsimp only; omega) (by dsimp only; omega) (by dsimp only; omega) (by dsimp only; omega) (by dsimp only; omega) (by dsimp only; omega) (by dsimp only; omega) | exact keepA8 ‹_› _ (by dsimp only; omega) (by dsimp only; omega) (by dsimp only; omega) (by dsimp only; omega) (by dsimp only; omega) (by dsimp only; omega) (by dsimp only; omega) (by dsimp only; omega) | exact keepS8 (keepS8 ‹_› _ _ (by dsimp only; omega) (by dsimp only; omega) (by dsimp only; omega) (by dsimp only; omega) (by dsimp only; omega) (by dsimp only; omega) (by dsimp only; omega) (by dsimp only; omega) (by dsimp only; omega)) _ _ (by dsimp only; omega) (by dsimp only; omega) (by dsimp only; omega) (by dsimp only; omega) (by dsimp only; omega) (by dsimp only; omega) (by dsimp only; omega) (by dsimp only; omega) (by dsimp only; omega))) ((first | (go_at_call 9; refine (QS.out _).mono ?_; rintro e w' ⟨rfl, hb⟩) | (go_at_call 14; refine (SUB.out _).mono ?_; rintro e w' ⟨rfl, hb⟩)))) | fail
  refine any_gen (fun z => z.cell? ⟨w.heap.size, 0, none⟩ = some (.int .i64 (x)) ∧ z.cell? ⟨w.heap.size, 1, none⟩ = some (.int .i64 (y)) ∧ z.cell? ⟨w.heap.size + 1, 0, none⟩ = some (.int .i64 (u)) ∧ z.cell? ⟨w.heap.size + 1, 1, none⟩ = some (.int .i64 (v)) ∧ z.cell? ⟨w4.heap.size, 0, none⟩ = some (.int .i64 (NY)) ∧ z.cell? ⟨w4.heap.size, 1, none⟩ = some (.int .i64 (x)) ∧ z.cell? ⟨w6.heap.size, 0, none⟩ = some (.int .i64 (AX)) ∧ z.cell? ⟨w6.heap.size, 1, none⟩ = some (.int .i64 (AY)) ∧ w7.heap.size ≤ z.heap.size ∧ Below w.heap.size w z) (next8 ‹_ ∧ _› (by omega) hb0) ?_
  clear c1 c2 c3 c4 c5 c6 c7 c8 hb0
  rintro w8 ⟨c1, c2, c3, c4, c5, c6, c7, c8, hsz, hb0⟩
  replace hs := Nat.le_trans hs hsz
  replace hg := Nat.le_trans hg hsz
  replace hk := Nat.le_trans hk hsz
  clear hsz
  go_wp2_with fail
  first | (go_region_held3 (fun w' => w'.cell? ⟨w.heap.size, 0, none⟩ = some (.int .i64 (x)) ∧ w'.cell? ⟨w.heap.size, 1, none⟩ = some (.int .i64 (y)) ∧ w'.cell? ⟨w.heap.size + 1, 0, none⟩ = some (.int .i64 (u)) ∧ w'.cell? ⟨w.heap.size + 1, 1, none⟩ = some (.int .i64 (v)) ∧ w'.cell? ⟨w4.heap.size, 0, none⟩ = some (.int .i64 (NY)) ∧ w'.cell? ⟨w4.heap.size, 1, none⟩ = some (.int .i64 (x)) ∧ Below w8.heap.size w8 w') ((first | assumption | exact ⟨by simp [*], by simp [*], by simp [*], by simp [*], by simp [*], by simp [*], (Below.refl _ _).drew⟩ | exact keep6 ‹_› hb (by dsimp only; omega) (by dsimp only; omega) (by dsimp only; omega) (by dsimp only; omega) (by dsimp only; omega) (by dsimp only; omega) | exact keepA6 ‹_› _ (by dsimp only; omega) (by dsimp only; omega) (by dsimp only; omega) (by dsimp only; omega) (by dsimp only; omega) (by dsimp only; omega) | exact keepS6 (keepS6 ‹_› _ _ (by dsimp only; omega) (by dsimp only; omega) (by dsimp only; omega) (by dsimp only; omega) (by dsimp only; omega) (by dsimp only; omega) (by dsimp only; omega)) _ _ (by dsimp only; omega) (by dsimp only; omega) (by dsimp only; omega) (by dsimp only; omega) (by dsimp only; omega) (by dsimp only; omega) (by dsimp only; omega))) ((first | (go_at_call 22; with_reducible refine (CR1.out _).mono ?_; rintro e w' ⟨rfl, hb⟩) | (go_at_call 22; with_reducible refine (CR2.out _).mono ?_; rintro e w' ⟨rfl, hb⟩) | (go_at_call 22; with_reducible refine (CR3.out _).mono ?_; rintro e w' ⟨rfl, hb⟩) | (go_at_call 20; with_reducible refine (DO1.out _).mono ?_; rintro e w' ⟨rfl, hb⟩) | (go_at_call 20; with_reducible refine (DO2.out _).mono ?_; rintro e w' ⟨rfl, hb⟩) | (go_at_call 20; with_reducible refine (DO3.out _).mono ?_; rintro e w' ⟨rfl, hb⟩) | (go_at_call 24; with_reducible refine (LEN1.out _).mono ?_; rintro e w' ⟨rfl, hb⟩) | (go_at_call 24; with_reducible refine (LEN2.out _).mono ?_; rintro e w' ⟨rfl, hb⟩) | (go_at_call 18; with_reducible refine (LEFT.out _).mono ?_; rintro e w' ⟨rfl, hb⟩) | (go_at_call 18; with_reducible refine (LEFT2.out _).mono ?_; rintro e w' ⟨rfl, hb⟩) | (go_at_call 16; with_reducible refine (NEG.out _).mono ?_; rintro e w' ⟨rfl, hb⟩)))) | fail
  all_goals
    have hF := belK6 ‹_ ∧ _ ∧ _ ∧ _ ∧ _ ∧ _ ∧ Below w8.heap.size w8 _›
    go_wp2
    go_ret
    exact ⟨rfl, hb0.trans (hF.mono (by omega))⟩

theorem turns_sf (x y u v : Int) (w : World) (na : nearB x y = true) (nb : nearB u v = true) (ns : nearB (x + u) (y + v) = false) :
    Calls Try.prog 4 #[P2 x y, P2 u v] w fun e w' => e = .returned (.bool true) ∧ Below w.heap.size w w' := by
  obtain ⟨hx, hy⟩ := nearB_iff.1 na
  obtain ⟨hu, hv⟩ := nearB_iff.1 nb
  have QR0 := fun w => r4near_any x y w
  simp only [na] at QR0
  have QR := Lib.hid QR0
  clear QR0
  have QB0 := fun w => r4near_any u v w
  simp only [nb] at QB0
  have QB := Lib.hid QB0
  clear QB0
  have QS0 := fun w => r4near_any (x + u) (y + v) w
  simp only [ns] at QS0
  have QS := Lib.hid QS0
  clear QS0
  have gx : -2147483648 ≤ x ∧ x ≤ 2147483648 := by omega
  have gy : -2147483648 ≤ y ∧ y ≤ 2147483648 := by omega
  have gu : -2147483648 ≤ u ∧ u ≤ 2147483648 := by omega
  have gv : -2147483648 ≤ v ∧ v ≤ 2147483648 := by omega
  have gny : -2147483648 ≤ -y ∧ -y ≤ 2147483648 := by omega
  have hny : -1073741824 ≤ -y ∧ -y ≤ 1073741824 := by omega
  have hnx : -1073741824 ≤ -x ∧ -x ≤ 1073741824 := by omega
  have gax : -2147483648 ≤ x + u ∧ x + u ≤ 2147483648 := by omega
  have gay : -2147483648 ≤ y + v ∧ y + v ≤ 2147483648 := by omega
  have p1 := prod_30 x v hx hv
  have p2 := prod_30 y u hy hu
  have s1 := sq_near x hx
  have s2 := sq_near y hy
  have e1 := turn_cross x y u v
  have e2 := turn_dot x y
  have e3 := turn_len x y
  have e4 := turn_ld x y u v
  have e5 := turn_cl x y
  have e6 : x + u - u = x := by omega
  have e7 : y + v - v = y := by omega
  obtain ⟨C, hC⟩ : ∃ C, x * v - y * u = C := ⟨_, rfl⟩
  obtain ⟨C2, hC2⟩ : ∃ C2, u * y - v * x = C2 := ⟨_, rfl⟩
  obtain ⟨LN, hLN⟩ : ∃ LN, lenN x y = LN := ⟨_, rfl⟩
  obtain ⟨DD, hDD⟩ : ∃ DD, x * x + y * y = DD := ⟨_, rfl⟩
  obtain ⟨AX, hAX⟩ : ∃ AX, x + u = AX := ⟨_, rfl⟩
  obtain ⟨AY, hAY⟩ : ∃ AY, y + v = AY := ⟨_, rfl⟩
  obtain ⟨NY, hNY⟩ : ∃ NY, -y = NY := ⟨_, rfl⟩
  obtain ⟨NX, hNX⟩ : ∃ NX, -x = NX := ⟨_, rfl⟩
  rw [hC2, hC] at e1
  have e8 : IntKind.i64.wrap (-C2) = C := by rw [e1, ← hC]; exact IntWalk.i64_in _ (by omega)
  have e9 : IntKind.i64.wrap (-C2) = -C2 := by rw [e8, e1]
  have LEFT0 := fun w => vleft_any x y w gx gy
  simp only [hNY] at LEFT0
  have LEFT := Lib.hid LEFT0
  clear LEFT0
  have LEFT20 := fun w => vleft_any (-y) x w gny gx
  simp only [hNX, hNY] at LEFT20
  have LEFT2 := Lib.hid LEFT20
  clear LEFT20
  have NEG0 := fun w => vneg_any x y w gx gy
  simp only [hNX, hNY] at NEG0
  have NEG := Lib.hid NEG0
  clear NEG0
  have ADD0 := fun w => vadd_any x y u v w gx gy gu gv
  simp only [hAX, hAY] at ADD0
  have ADD := Lib.hid ADD0
  clear ADD0
  have SUB0 := fun w => vsub_any (x + u) (y + v) u v w gax gay gu gv
  simp only [e6, e7] at SUB0
  simp only [hAX, hAY] at SUB0
  have SUB := Lib.hid SUB0
  clear SUB0
  have CR10 := fun w => vcross_any x y u v w hx hy hu hv
  simp only [hC] at CR10
  have CR1 := Lib.hid CR10
  clear CR10
  have CR20 := fun w => vcross_any u v x y w hu hv hx hy
  simp only [hC2] at CR20
  have CR2 := Lib.hid CR20
  clear CR20
  have CR30 := fun w => vcross_any x y (-y) x w hx hy hny hx
  simp only [e5] at CR30
  simp only [hDD, hNY] at CR30
  have CR3 := Lib.hid CR30
  clear CR30
  have DO10 := fun w => vdot_any x y (-y) x w hx hy hny hx
  simp only [e2] at DO10
  simp only [hNY] at DO10
  have DO1 := Lib.hid DO10
  clear DO10
  have DO20 := fun w => vdot_any (-y) x u v w hny hx hu hv
  simp only [e4] at DO20
  simp only [hC, hNY] at DO20
  have DO2 := Lib.hid DO20
  clear DO20
  have DO30 := fun w => vdot_any x y x y w hx hy hx hy
  simp only [hDD] at DO30
  have DO3 := Lib.hid DO30
  clear DO30
  have LEN10 := fun w => vlen_any (-y) x w hny hx
  simp only [e3] at LEN10
  simp only [hLN, hNY] at LEN10
  have LEN1 := Lib.hid LEN10
  clear LEN10
  have LEN20 := fun w => vlen_any x y w hx hy
  simp only [hLN] at LEN20
  have LEN2 := Lib.hid LEN20
  clear LEN20
  simp only [hAX, hAY] at QS
  have eC := Lib.hid e1
  have q1 : (C == C) = true := by simp
  have q2 : (x != x) = false := by simp
  have q3 : (y != y) = false := by simp
  have q4 : ((LN : Int) == (LN : Int)) = true := by simp
  have q5 : (DD == DD) = true := by simp
  clear hx hy hu hv gx gy gu gv gny hny hnx gax gay p1 p2 s1 s2 e1 e2 e3 e4 e5 e6 e7 hC hC2 hLN hDD hAX hAY hNY hNX na nb ns e9
  go_enter Try.func4, Try.ntmps4
  go_upto_region 1 with fail
  refine any_gen (fun w' => w'.cell? ⟨w.heap.size, 0, none⟩ = some (.int .i64 (x)) ∧ w'.cell? ⟨w.heap.size, 1, none⟩ = some (.int .i64 (y)) ∧ w'.cell? ⟨w.heap.size + 1, 0, none⟩ = some (.int .i64 (u)) ∧ w'.cell? ⟨w.heap.size + 1, 1, none⟩ = some (.int .i64 (v)) ∧ w.heap.size + 1 + 1 ≤ w'.heap.size ∧ Below w.heap.size w w') ⟨by simp [go_sem], by simp [go_sem], by simp [go_sem], by simp [go_sem], ?siz, ?bel⟩ ?_
  case siz => simp
  case bel => repeat (first | exact Below.refl _ _ | refine below_dN ?_ _ | refine Below.setCell ?_ (by simp; try omega) _ | refine Below.alloc ?_ (by simp; try omega) _)
  rintro w0 ⟨c1, c2, c3, c4, hs, hb0⟩
  go_wp2_with fail
  refine (QR.out _).mono ?_
  rintro e w1 ⟨rfl, h1⟩
  obtain ⟨d1, d2, d3, d4, hsz, hb1⟩ := next4 (keep4 ⟨c1, c2, c3, c4, Below.refl _ _⟩ h1 (by dsimp only; omega) (by dsimp only; omega) (by dsimp only; omega) (by dsimp only; omega)) (by omega) hb0
  clear c1 c2 c3 c4 hb0 h1
  have c1 := d1
  clear d1
  have c2 := d2
  clear d2
  have c3 := d3
  clear d3
  have c4 := d4
  clear d4
  have hb0 := hb1
  clear hb1
  replace hs := Nat.le_trans hs hsz
  clear hsz
  go_wp2_with fail
  refine (QB.out _).mono ?_
  rintro e w2 ⟨rfl, h2⟩
  obtain ⟨d1, d2, d3, d4, hsz, hb1⟩ := next4 (keep4 ⟨c1, c2, c3, c4, Below.refl _ _⟩ h2 (by dsimp only; omega) (by dsimp only; omega) (by dsimp only; omega) (by dsimp only; omega)) (by omega) hb0
  clear c1 c2 c3 c4 hb0 h2
  have c1 := d1
  clear d1
  have c2 := d2
  clear d2
  have c3 := d3
  clear d3
  have c4 := d4
  clear d4
  have hb0 := hb1
  clear hb1
  replace hs := Nat.le_trans hs hsz
  clear hsz
  go_wp2_with fail
  refine (shown_any _).mono ?_
  rintro e w3 ⟨rfl, h3⟩
  obtain ⟨d1, d2, d3, d4, hsz, hb1⟩ := next4 (keep4 ⟨c1, c2, c3, c4, Below.refl _ _⟩ h3 (by dsimp only; omega) (by dsimp only; omega) (by dsimp only; omega) (by dsimp only; omega)) (by omega) hb0
  clear c1 c2 c3 c4 hb0 h3
  have c1 := d1
  clear d1
  have c2 := d2
  clear d2
  have c3 := d3
  clear d3
  have c4 := d4
  clear d4
  have hb0 := hb1
  clear hb1
  replace hs := Nat.le_trans hs hsz
  clear hsz
  go_wp2_with fail
  refine (LEFT.out _).mono ?_
  rintro e w4 ⟨rfl, h4⟩
  obtain ⟨d1, d2, d3, d4, hsz, hb1⟩ := next4 (keep4 ⟨c1, c2, c3, c4, Below.refl _ _⟩ h4 (by dsimp only; omega) (by dsimp only; omega) (by dsimp only; omega) (by dsimp only; omega)) (by omega) hb0
  clear c1 c2 c3 c4 hb0 h4
  have c1 := d1
  clear d1
  have c2 := d2
  clear d2
  have c3 := d3
  clear d3
  have c4 := d4
  clear d4
  have hb0 := hb1
  clear hb1
  replace hs := Nat.le_trans hs hsz
  clear hsz
  go_upto_region 4 with fail
  refine any_gen (fun z => z.cell? ⟨w.heap.size, 0, none⟩ = some (.int .i64 (x)) ∧ z.cell? ⟨w.heap.size, 1, none⟩ = some (.int .i64 (y)) ∧ z.cell? ⟨w.heap.size + 1, 0, none⟩ = some (.int .i64 (u)) ∧ z.cell? ⟨w.heap.size + 1, 1, none⟩ = some (.int .i64 (v)) ∧ z.cell? ⟨w4.heap.size, 0, none⟩ = some (.int .i64 (NY)) ∧ z.cell? ⟨w4.heap.size, 1, none⟩ = some (.int .i64 (x)) ∧ w4.heap.size + 1 ≤ z.heap.size ∧ Below w.heap.size w z) ⟨(World.cell?_alloc_old _ _ _ (by dsimp only; omega)).trans c1, (World.cell?_alloc_old _ _ _ (by dsimp only; omega)).trans c2, (World.cell?_alloc_old _ _ _ (by dsimp only; omega)).trans c3, (World.cell?_alloc_old _ _ _ (by dsimp only; omega)).trans c4, by simp, by simp, by simp, hb0.alloc (by first | omega | exact hb0.size) _⟩ ?_
  clear c1 c2 c3 c4 hb0
  rintro w5 ⟨c1, c2, c3, c4, c5, c6, hsz, hb0⟩
  replace hs := Nat.le_trans hs (Nat.le_trans (Nat.le_succ _) hsz)
  have hg := hsz
  clear hsz
  go_wp2_with fail
  refine (ADD.out _).mono ?_
  rintro e w6 ⟨rfl, h5⟩
  obtain ⟨d1, d2, d3, d4, d5, d6, hsz, hb1⟩ := next6 (keep6 ⟨c1, c2, c3, c4, c5, c6, Below.refl _ _⟩ h5 (by dsimp only; omega) (by dsimp only; omega) (by dsimp only; omega) (by dsimp only; omega) (by dsimp only; omega) (by dsimp only; omega)) (by omega) hb0
  clear c1 c2 c3 c4 c5 c6 hb0 h5
  have c1 := d1
  clear d1
  have c2 := d2
  clear d2
  have c3 := d3
  clear d3
  have c4 := d4
  clear d4
  have c5 := d5
  clear d5
  have c6 := d6
  clear d6
  have hb0 := hb1
  clear hb1
  replace hs := Nat.le_trans hs hsz
  replace hg := Nat.le_trans hg hsz
  clear hsz
  go_upto_region 5 with fail
  refine any_gen (fun z => z.cell? ⟨w.heap.size, 0, none⟩ = some (.int .i64 (x)) ∧ z.cell? ⟨w.heap.size, 1, none⟩ = some (.int .i64 (y)) ∧ z.cell? ⟨w.heap.size + 1, 0, none⟩ = some (.int .i64 (u)) ∧ z.cell? ⟨w.heap.size + 1, 1, none⟩ = some (.int .i64 (v)) ∧ z.cell? ⟨w4.heap.size, 0, none⟩ = some (.int .i64 (NY)) ∧ z.cell? ⟨w4.heap.size, 1, none⟩ = some (.int .i64 (x)) ∧ z.cell? ⟨w6.heap.size, 0, none⟩ = some (.int .i64 (AX)) ∧ z.cell? ⟨w6.heap.size, 1, none⟩ = some (.int .i64 (AY)) ∧ w6.heap.size + 1 ≤ z.heap.size ∧ Below w.heap.size w z) ⟨(World.cell?_alloc_old _ _ _ (by dsimp only; omega)).trans c1, (World.cell?_alloc_old _ _ _ (by dsimp only; omega)).trans c2, (World.cell?_alloc_old _ _ _ (by dsimp only; omega)).trans c3, (World.cell?_alloc_old _ _ _ (by dsimp only; omega)).trans c4, (World.cell?_alloc_old _ _ _ (by dsimp only; omega)).trans c5, (World.cell?_alloc_old _ _ _ (by dsimp only; omega)).trans c6, by simp, by simp, by simp, hb0.alloc (by first | omega | exact hb0.size) _⟩ ?_
  clear c1 c2 c3 c4 c5 c6 hb0
  rintro w7 ⟨c1, c2, c3, c4, c5, c6, c7, c8, hsz, hb0⟩
  replace hs := Nat.le_trans hs (Nat.le_trans (Nat.le_succ _) hsz)
  replace hg := Nat.le_trans hg (Nat.le_trans (Nat.le_succ _) hsz)
  have hk := hsz
  clear hsz
  refine wp_region_held_drew (S := fun w' => w'.cell? ⟨w.heap.size, 0, none⟩ = some (.int .i64 (x)) ∧ w'.cell? ⟨w.heap.size, 1, none⟩ = some (.int .i64 (y)) ∧ w'.cell? ⟨w.heap.size + 1, 0, none⟩ = some (.int .i64 (u)) ∧ w'.cell? ⟨w.heap.size + 1, 1, none⟩ = some (.int .i64 (v)) ∧ w'.cell? ⟨w4.heap.size, 0, none⟩ = some (.int .i64 (NY)) ∧ w'.cell? ⟨w4.heap.size, 1, none⟩ = some (.int .i64 (x)) ∧ w'.cell? ⟨w6.heap.size, 0, none⟩ = some (.int .i64 (AX)) ∧ w'.cell? ⟨w6.heap.size, 1, none⟩ = some (.int .i64 (AY)) ∧ Below w7.heap.size w7 w') (by kernel_rfl) ⟨by simp [*], by simp [*], by simp [*], by simp [*], by simp [*], by simp [*], by simp [*], by simp [*], (Below.refl _ _).drew⟩ (fun hHeld => ?_)
  refine wpAnyH_take (i := 0) (oi := ⟨some 25, _, _, _, _, _⟩) (v := ?_) rfl (by kernel_rfl) (by kernel_rfl) (by kernel_rfl) (fun _ _ _ h => h) (Or.inl ⟨by rfl, ?_⟩) (by assumption) ?_
  rotate_left
  · (intro w hSw; (try dsimp only at hSw); go_simp; (try with_reducible rfl))
  try simp only [Act.put, List.setIfInBounds_toArray, List.set_cons_zero, List.set_cons_succ]
  refine wpAnyH_ready (rs := [1]) (by kernel_rfl) (by simp) ?_
  refine AllReadyH.cons (o := ⟨some 26, _, _, _, _, _⟩) rfl (fun K hK => ?_) AllReadyH.nil
  go_simp
  first | (go_at_call 9; refine (QS.out _).mono ?_; rintro e w' ⟨rfl, hb⟩) | (go_at_call 14; refine (SUB.out _).mono ?_; rintro e w' ⟨rfl, hb⟩)
  try go_wp2_with fail
  refine hK.out _ _ ?_ (fun hHeld => ?_)
  · exact keep8 ‹_› hb (by dsimp only; omega) (by dsimp only; omega) (by dsimp only; omega) (by dsimp only; omega) (by dsimp only; omega) (by dsimp only; omega) (by dsimp only; omega) (by dsimp only; omega)
  clear hK K
  try simp only [Act.put, List.setIfInBounds_toArray, List.set_cons_zero, List.set_cons_succ]
  refine wpAnyH_take (i := 2) (oi := ⟨some 27, _, _, _, _, _⟩) (v := ?_) rfl (by kernel_rfl) (by kernel_rfl) (by kernel_rfl) (fun _ _ _ h => h) (Or.inl ⟨by rfl, ?_⟩) (by assumption) ?_
  rotate_left
  · (intro w hSw; (try dsimp only at hSw); go_simp; (try with_reducible rfl))
  try simp only [Act.put, List.setIfInBounds_toArray, List.set_cons_zero, List.set_cons_succ]
  refine wpAnyH_take (i := 3) (oi := ⟨some 28, _, _, _, _, _⟩) (v := undef) rfl (by kernel_rfl) (by kernel_rfl) (by kernel_rfl) (fun _ _ _ h => h) (Or.inr ⟨by rfl, rfl⟩) (by assumption) ?_
  try simp only [Act.put, List.setIfInBounds_toArray, List.set_cons_zero, List.set_cons_succ]
  refine wpAnyH_take (i := 4) (oi := ⟨some 29, _, _, _, _, _⟩) (v := undef) rfl (by kernel_rfl) (by kernel_rfl) (by kernel_rfl) (fun _ _ _ h => h) (Or.inr ⟨by rfl, rfl⟩) (by assumption) ?_
  try simp only [Act.put, List.setIfInBounds_toArray, List.set_cons_zero, List.set_cons_succ]
  refine wpAnyH_take (i := 6) (oi := ⟨some 31, _, _, _, _, _⟩) (v := undef) rfl (by kernel_rfl) (by kernel_rfl) (by kernel_rfl) (fun _ _ _ h => h) (Or.inr ⟨by rfl, rfl⟩) (by assumption) ?_
  try simp only [Act.put, List.setIfInBounds_toArray, List.set_cons_zero, List.set_cons_succ]
  refine wpAnyH_ready (rs := [5]) (by kernel_rfl) (by simp) ?_
  refine AllReadyH.cons (o := ⟨some 30, _, _, _, _, _⟩) rfl (fun K hK => ?_) AllReadyH.nil
  go_simp
  refine hK.out _ _ ?_ (fun hHeld => ?_)
  · assumption
  clear hK K
  try simp only [Act.put, List.setIfInBounds_toArray, List.set_cons_zero, List.set_cons_succ]
  refine wpAnyH_take (i := 7) (oi := ⟨some 32, _, _, _, _, _⟩) (v := undef) rfl (by kernel_rfl) (by kernel_rfl) (by kernel_rfl) (fun _ _ _ h => h) (Or.inr ⟨by rfl, rfl⟩) (by assumption) ?_
  try simp only [Act.put, List.setIfInBounds_toArray, List.set_cons_zero, List.set_cons_succ]
  refine wpAnyH_take (i := 8) (oi := ⟨some 33, _, _, _, _, _⟩) (v := ?_) rfl (by kernel_rfl) (by kernel_rfl) (by kernel_rfl) (fun _ _ _ h => h) (Or.inl ⟨by rfl, ?_⟩) (by assumption) ?_
  rotate_left
  · (intro w hSw; (try dsimp only at hSw); go_simp; (try with_reducible rfl))
  try simp only [Act.put, List.setIfInBounds_toArray, List.set_cons_zero, List.set_cons_succ]
  refine wpAnyH_done (by kernel_rfl) ?_ _
  refine any_gen (fun z => z.cell? ⟨w.heap.size, 0, none⟩ = some (.int .i64 (x)) ∧ z.cell? ⟨w.heap.size, 1, none⟩ = some (.int .i64 (y)) ∧ z.cell? ⟨w.heap.size + 1, 0, none⟩ = some (.int .i64 (u)) ∧ z.cell? ⟨w.heap.size + 1, 1, none⟩ = some (.int .i64 (v)) ∧ z.cell? ⟨w4.heap.size, 0, none⟩ = some (.int .i64 (NY)) ∧ z.cell? ⟨w4.heap.size, 1, none⟩ = some (.int .i64 (x)) ∧ z.cell? ⟨w6.heap.size, 0, none⟩ = some (.int .i64 (AX)) ∧ z.cell? ⟨w6.heap.size, 1, none⟩ = some (.int .i64 (AY)) ∧ w7.heap.size ≤ z.heap.size ∧ Below w.heap.size w z) (next8 ‹_ ∧ _› (by omega) hb0) ?_
  clear c1 c2 c3 c4 c5 c6 c7 c8 hb0
  rintro w8 ⟨c1, c2, c3, c4, c5, c6, c7, c8, hsz, hb0⟩
  replace hs := Nat.le_trans hs hsz
  replace hg := Nat.le_trans hg hsz
  replace hk := Nat.le_trans hk hsz
  clear hsz
  go_wp2_with fail
  first | (go_region_held3 (fun w' => w'.cell? ⟨w.heap.size, 0, none⟩ = some (.int .i64 (x)) ∧ w'.cell? ⟨w.heap.size, 1, none⟩ = some (.int .i64 (y)) ∧ w'.cell? ⟨w.heap.size + 1, 0, none⟩ = some (.int .i64 (u)) ∧ w'.cell? ⟨w.heap.size + 1, 1, none⟩ = some (.int .i64 (v)) ∧ w'.cell? ⟨w4.heap.size, 0, none⟩ = some (.int .i64 (NY)) ∧ w'.cell? ⟨w4.heap.size, 1, none⟩ = some (.int .i64 (x)) ∧ Below w8.heap.size w8 w') ((first | assumption | exact ⟨by simp [*], by simp [*], by simp [*], by simp [*], by simp [*], by simp [*], (Below.refl _ _).drew⟩ | exact keep6 ‹_› hb (by dsimp only; omega) (by dsimp only; omega) (by dsimp only; omega) (by dsimp only; omega) (by dsimp only; omega) (by dsimp only; omega) | exact keepA6 ‹_› _ (by dsimp only; omega) (by dsimp only; omega) (by dsimp only; omega) (by dsimp only; omega) (by dsimp only; omega) (by dsimp only; omega) | exact keepS6 (keepS6 ‹_› _ _ (by dsimp only; omega) (by dsimp only; omega) (by dsimp only; omega) (by dsimp only; omega) (by dsimp only; omega) (by dsimp only; omega) (by dsimp only; omega)) _ _ (by dsimp only; omega) (by dsimp only; omega) (by dsimp only; omega) (by dsimp only; omega) (by dsimp only; omega) (by dsimp only; omega) (by dsimp only; omega))) ((first | (go_at_call 22; with_reducible refine (CR1.out _).mono ?_; rintro e w' ⟨rfl, hb⟩) | (go_at_call 22; with_reducible refine (CR2.out _).mono ?_; rintro e w' ⟨rfl, hb⟩) | (go_at_call 22; with_reducible refine (CR3.out _).mono ?_; rintro e w' ⟨rfl, hb⟩) | (go_at_call 20; with_reducible refine (DO1.out _).mono ?_; rintro e w' ⟨rfl, hb⟩) | (go_at_call 20; with_reducible refine (DO2.out _).mono ?_; rintro e w' ⟨rfl, hb⟩) | (go_at_call 20; with_reducible refine (DO3.out _).mono ?_; rintro e w' ⟨rfl, hb⟩) | (go_at_call 24; with_reducible refine (LEN1.out _).mono ?_; rintro e w' ⟨rfl, hb⟩) | (go_at_call 24; with_reducible refine (LEN2.out _).mono ?_; rintro e w' ⟨rfl, hb⟩) | (go_at_call 18; with_reducible refine (LEFT.out _).mono ?_; rintro e w' ⟨rfl, hb⟩) | (go_at_call 18; with_reducible refine (LEFT2.out _).mono ?_; rintro e w' ⟨rfl, hb⟩) | (go_at_call 16; with_reducible refine (NEG.out _).mono ?_; rintro e w' ⟨rfl, hb⟩)))) | fail
  all_goals
    have hF := belK6 ‹_ ∧ _ ∧ _ ∧ _ ∧ _ ∧ _ ∧ Below w8.heap.size w8 _›
    go_wp2
    go_ret
    exact ⟨rfl, hb0.trans (hF.mono (by omega))⟩

theorem walk_VectorTurns (x y u v : Int) (w : World) :
    Calls Try.prog 4 #[P2 x y, P2 u v] w fun e w' => e = .returned (.bool true) ∧ Below w.heap.size w w' := by
  rcases na : nearB x y with _ | _
  · exact turns_a x y u v w na
  · rcases nb : nearB u v with _ | _
    · exact turns_b x y u v w na nb
    · rcases ns : nearB (x + u) (y + v) with _ | _
      · exact turns_sf x y u v w na nb ns
      · exact turns_st x y u v w na nb ns
end Go.Proofs.Ytmdhlkdeadfgdaa
